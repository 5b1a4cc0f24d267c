import Derived.Test.YtdobojnokgkbpaaMTabNums
import Derived.Test.YtdobojnokgkbpaaMTreCheck
import Derived.Test.YtdobojnokgkbpaaMUprRow
import Derived.Laws.CopyOwn
import Derived.Lib.SlBytesConst
import Derived.Deep.RegionWith
set_option linter.unusedVariables false
namespace Go.Proofs.Ytdobojnokgkbpaa
open Go.RowKit Go.Maps
open Nam Tre Tab
open Lz (g)
open Cur
namespace Tab
def rootV (a : Option Addr) (n c : Nat) : Nv := ⟨none, 0, 0, 0, 1, 0, 0, 0, none, 0, 0, ⟨#[]⟩, a, n, c, false⟩
def rootN (xs : List (ByteArray × List Int)) : Nod := ⟨[], 0, 1, 0, 0, 0, [], ⟨#[]⟩, xs, false⟩
theorem check_rootN (xs : List (ByteArray × List Int)) : check [rootN xs] = if xsOk xs = true then 0 else 7 := by
 have h1 : ¬ 1024 < [rootN xs].length := by simp
 have h2 : wrong [rootN xs] = 0 := rfl
 have h3 : [rootN xs].any deep = false := rfl
 have h4 : ([rootN xs].map Nod.names).Nodup := by simp
 have h5 : isDir [rootN xs] [] = true := by simp [isDir, rootN]
 have h6 : [rootN xs].all (inDir [rootN xs]) = true := by simp [inDir, rootN]
 have h8 : [rootN xs].Pairwise one := by simp
 have hm : [rootN xs].all may = xsOk xs := by
  simp [may, kdOk, attrOk, rootN]
 by_cases h : xsOk xs = true
 ·rw [if_pos h]
  exact check_ok h1 h2 h3 h4 h5 h6 (by rw [hm]; exact h) h8
 ·rw [if_neg h]
  exact check_kind h1 h2 h3 h4 h5 h6 (by rw [hm]; simpa using h)
theorem xs1_mem : ∀ (xs : List (ByteArray × List Int)) (a : List UInt8), xs1 a xs = true → ∀ x ∈ xs, x.1.size ≤ 40 ∧ x.2.length ≤ 200
 | [], _, _, x, hx => by simp at hx
 | y :: r, a, h, x, hx => by
  rw [xs1] at h
  simp only [Bool.and_eq_true, decide_eq_true_eq] at h
  obtain ⟨⟨⟨_, h1⟩, h2⟩, h3⟩ := h
  rcases List.mem_cons.1 hx with rfl | hx
  ·refine ⟨?_, h2⟩
   unfold txt at h1
   simp only [Bool.and_eq_true, decide_eq_true_eq] at h1
   have := h1.1.2
   rwa [toList_length] at this
  ·exact xs1_mem r _ h3 x hx
theorem xsOk_mem {xs : List (ByteArray × List Int)} (h : xsOk xs = true) : xs.length ≤ 8 ∧ ∀ x ∈ xs, x.1.size ≤ 40 ∧ x.2.length ≤ 200 := by
 unfold xsOk at h
 simp only [Bool.and_eq_true, decide_eq_true_eq] at h
 exact ⟨h.1, xs1_mem xs _ h.2⟩
end Tab
set_option maxRecDepth 100000 in
theorem MayXattrs_any (a : Option Addr) (n c : Nat) (xs : List (ByteArray × List Int)) (w : World) (h : XsR w a n xs) (hc : n ≤ c) (hcm : c ≤ 9223372036854775807) (hnil : a = none → c = 0) (q : Bool) (hq : xsOk xs = q) :
  Calls Try.prog 38 #[.slice a n c] w fun e w' => e = .returned (.bool q) ∧ Below w.heap.size w w' := by
 obtain ⟨w1, hw1⟩ : ∃ w1, w1 = w.alloc (.cells (rootV a n c).cells 28) := ⟨_, rfl⟩
 have b1 : Below w.heap.size w w1 := by rw [hw1]; exact below_one _ _
 have hN : Ns w1 (some ⟨w.heap.size, 0, none⟩) 1 [(rootV a n c, rootN xs)] := by
  refine ⟨rfl, fun p hp => ?_, .inr ⟨w.heap.size, 0, rfl, by rw [hw1]; simp, fun i hi => ?_⟩⟩
  ·simp at hp
   subst hp
   exact ⟨Rs.nil _ _, Nat.le_refl _, by simp [rootV], fun _ => rfl, rfl, by simp [rootV]; decide, rfl, rfl, rfl, rfl, (New.none _).bs, Nat.le_refl _, by simp [rootV], fun _ => rfl, rfl, by show (0 : Nat) ≤ _; omega, h.below b1, hc, hcm, hnil, rfl⟩
  ·obtain rfl : i = 0 := by omega
   have hB := boxed w (rootV a n c)
   rw [← hw1] at hB
   exact ⟨hB.c0, hB.c1, hB.c2, hB.c3, hB.c4, hB.c5, hB.c6, hB.c7, hB.c8, hB.c9⟩
 have HC := hide (Check_any _ 1 1 _ w1 hN (Nat.le_refl _) (by omega))
 have e : nds [(rootV a n c, rootN xs)] = [rootN xs] := rfl
 rw [e, check_rootN] at HC
 have HB1 := hide b1
 have HW1 := hide hw1
 unfold Nv.cells rootV at HW1
 have HQ := hide hq
 clear b1 hw1 hN h e hq
 cases q with
 | true =>
  rw [HQ.out, if_pos rfl] at HC
  go_enter Try.func38, Try.ntmps38
  go_wp2_with fail
  rw [← HW1.out]
  refine HC.out.mono ?_
  rintro r w2 ⟨rfl, hb2⟩
  have HB2 := hide (HB1.out.trans (hb2.mono HB1.out.size))
  clear hb2 HC
  go_wp2
  go_ret
  exact ⟨rfl, HB2.out⟩
 | false =>
  rw [HQ.out, if_neg (by simp)] at HC
  go_enter Try.func38, Try.ntmps38
  go_wp2_with fail
  rw [← HW1.out]
  refine HC.out.mono ?_
  rintro r w2 ⟨rfl, hb2⟩
  have HB2 := hide (HB1.out.trans (hb2.mono HB1.out.size))
  clear hb2 HC
  go_wp2
  go_ret
  exact ⟨rfl, HB2.out⟩
end Go.Proofs.Ytdobojnokgkbpaa
namespace Go.Proofs.Ytdobojnokgkbpaa
open Go.RowKit Go.Maps
open Nam Tre Tab
open Lz (g)
namespace Upr
theorem results_cr1 {fn : Func} {p : Tmp} {ty : TypeId} (h : fn.results = #[.cell p ty]) (tmps : Array Value) (w : World) (g : Nat) (cs : Array Value)
  (hp : tmps.getD p undef = .pointer (some ⟨g, 0, none⟩)) (hr : (loadVar ty ⟨g, 0, none⟩).run Try.prog w = .ok (.agg cs) w) :
  (results fn tmps).run Try.prog w = .ok (.agg cs) w := by
 have hp' : tmps[p]?.getD undef = .pointer (some ⟨g, 0, none⟩) := by simpa using hp
 simp [results, h, hp', asAddr, hr]
theorem uinfoStat : (Try.prog.info? 39).map (fun i => i.size) = some 6 := by kernel_rfl
theorem uload_stat {w : World} {b : Nat} {t : TypeId} {cs : Array Value} {fr : Nat × Nat} (h : w.heap[b]? = some (.cells cs t fr)) (hs : cs.size = 6) : (loadVar 39 ⟨b, 0, none⟩).run Try.prog w = .ok (.agg cs) w :=
 run_loadVar_row w b t 39 cs fr _ h Try.underlying39 rfl (by rw [hs]; exact uinfoStat)
theorem may_small {n : Nod} (h : mayU n = true) : n.data.length ≤ 4096 ∧ n.target.size ≤ 200 ∧ n.xs.length ≤ 8 ∧ (∀ x ∈ n.xs, x.1.size ≤ 40 ∧ x.2.length ≤ 200) ∧ (0 ≤ n.mode ∧ n.mode ≤ 511) ∧ (0 ≤ n.uid ∧ n.uid ≤ 65535) ∧ (0 ≤ n.gid ∧ n.gid ≤ 65535) ∧ 1 ≤ n.kind ∧ n.kind ≤ 4 := by
 unfold mayU at h
 split at h
 ·rename_i hk
  rw [decide_eq_true_eq] at h
  obtain ⟨⟨h1, h2, h3⟩, h4, h5, h6⟩ := h
  have h7 : n.xs = [] := List.eq_nil_of_length_eq_zero h6
  have h8 : n.target.size = 0 := by rw [← toList_length, h5]; rfl
  refine ⟨by omega, by omega, by omega, ?_, by omega, by omega, by omega, by omega, by omega⟩
  rw [h7]; intro x hx; simp at hx
 ·unfold may kdOk attrOk at h
  simp only [Bool.and_eq_true, decide_eq_true_eq] at h
  obtain ⟨⟨⟨h1, h2⟩, h3⟩, _⟩ := h
  obtain ⟨x1, x2⟩ := xsOk_mem h3
  have h9 : n.data.length ≤ 4096 ∧ n.target.size ≤ 200 ∧ 1 ≤ n.kind ∧ n.kind ≤ 4 := by
   have tl := toList_length n.target
   split at h1
   ·simp only [Bool.and_eq_true, decide_eq_true_eq, List.isEmpty_iff] at h1
    rw [h1.2] at tl
    simp at tl
    omega
   ·split at h1
    ·simp only [Bool.and_eq_true, decide_eq_true_eq, List.isEmpty_iff] at h1
     rw [h1.2] at tl
     simp at tl
     omega
    ·split at h1
     ·unfold txt at h1
      simp only [Bool.and_eq_true, decide_eq_true_eq] at h1
      omega
     ·cases h1
  exact ⟨h9.1, h9.2.1, x1, x2, h2.1, h2.2.1, h2.2.2, h9.2.2⟩
section
variable {p : Nat} {c : Nat → Cl} {q : Int × Int × Int} {u : Us} {lk pr : Int → Int} {m : Nat} {nb eb : Int → Nat}
theorem UB.kids {w : World} (h : UB w p c q u lk pr m nb eb) {r : Int} {n : Nod} (hn : nd u r = some n) (hk : n.kind ≠ 1 → kin u r = 0) (ty : TypeId) :
  (Builtin.len_ #[73] ty #[.map (if n.kind = 1 then some (eb r) else none)]).run Try.prog w = .ok (.int .i64 (kin u r : Int)) w := by
 by_cases e : n.kind = 1
 ·rw [if_pos e]; exact (h.ents hn e).len Try.underlying73 ty
 ·rw [if_neg e, hk e]; exact Maps.len_nil Try.underlying73 ty
set_option maxRecDepth 100000 in
theorem usize_any {b : Nat} {n : Nod} {v : Pv} {l : Int} {em : Option Nat} {pp : Int} (ks : Nat) (w : World) (h : NB c w b n v l (.map em) pp) (hm : mayU n = true) (hks : ks ≤ 100000) (hl : ∀ k, (Builtin.len_ #[73] 3 #[.map em]).run Try.prog (w.drewN k) = .ok (.int .i64 (ks : Int)) (w.drewN k)) :
  Calls Try.prog 25 #[.pointer (some ⟨b, 0, none⟩)] w fun e w' => e = .returned (.int .i64 ((n.data.length + n.target.size + ks : Nat) : Int)) ∧ ∃ k, w' = w.drewN k := by
 obtain ⟨m1, m2, _⟩ := may_small hm
 have d0 := h.d
 have t0 := h.t
 have e0 := h.e
 have hd := h.data.1
 rw [hd] at m1 ⊢
 have i1 : IntKind.i64.wrap ((ks : Int) + v.dn) = (ks : Int) + v.dn := by rw [IntKind.wrap_i64]; omega
 have i2 : IntKind.i64.wrap ((ks : Int) + v.dn + n.target.size) = (ks : Int) + v.dn + n.target.size := by rw [IntKind.wrap_i64]; omega
 clear h hm hd
 go_enter Try.func25, Try.ntmps25
 go_wp2_with fail
 go_quiet (fail)
 go_wp2
 go_ret
 exact ⟨ret_int (by omega), _, rfl⟩
def statV (u : Us) (lk : Int → Int) (r : Int) : Array Value := match nd u r with
 | none => #[.int .i64 0, .int .i64 0, .int .i64 0, .int .i64 0, .int .i64 0, .int .i64 0]
 | some n => #[.int .i64 n.kind, .int .i64 n.mode, .int .i64 n.uid, .int .i64 n.gid, .int .i64 (lk r), .int .i64 (siz u n : Int)]
def statE (u : Us) (r : Int) : Int := if (nd u r).isSome = true then 0 else 1
theorem kin_le (u : Us) (r : Int) : kin u r ≤ u.E.length := List.countP_le_length
theorem wpAnyH_switch {P : Program} {md : Region.Mode} {ops : Array Oper} {Q : Exit → Act → World → Prop} {S S' : World → Prop} (hS : ∀ w, S' w → S w) : ∀ (fuel : Nat) (listed : Array Bool) (a : Act) (w : World), wpAnyH P md ops Q S' fuel listed a w → wpAnyH P md ops Q S fuel listed a w
 | 0, _, _, _, h => h
 | fuel + 1, _, _, _, h => ⟨h.1, fun i hi => wpOp_mono (fun a' w' h' => ⟨hS w' h'.1, wpAnyH_switch hS fuel _ a' w' h'.2⟩) (h.2 i hi)⟩
theorem step_store_row {w : World} {ops : Array Oper} {o : Oper} {a : Act} {K : Act → World → Prop} {Q : Exit → Act → World → Prop} {E : Prop} (hgd : o.guard = none) (ty : TypeId) (x y : Operand) (ho : o.op = .store ty x y)
  (k : Nat) (cells : Array Value) (hx : a.eval x = .pointer (some ⟨k, 0, none⟩)) (hy : a.eval y = .agg cells) (t : TypeId) (old : Array Value) (hg : w.heap[k]? = some (.cells old t (0, 0))) (hi : (Try.prog.info? ty).map (·.size) = some cells.size)
  (hold : old.size = cells.size) (h1 : cells.all (·.oneCell') = true) (h : K (a.put o.dst undef) (w.setRow k cells)) : if Region.wanted o (yielded ops a.tmps) = true then Oper.wp Try.prog o a w K Q else E := by
 have hw : Region.wanted o (yielded ops a.tmps) = true := by simp [Region.wanted, hgd]
 rw [if_pos hw]
 exact wp_store_row ty x y ho k cells hx hy t old hg hi hold h1 h
theorem usetRow_heap {w : World} {k : Nat} {old : Array Value} {t : TypeId} (h : w.heap[k]? = some (.cells old t (0, 0))) (cs : Array Value) : (w.setRow k cs).heap[k]? = some (.cells cs t (0, 0)) := by
 simp [World.setRow, Array.getElem?_modify, h]
theorem upB_drewN {W w : World} (h : Below W.heap.size W w) (k : Nat) : Below W.heap.size W (w.drewN k) := below_drewN h k
theorem upB_drew {W w : World} (h : Below W.heap.size W w) : Below W.heap.size W w.drew := below_drewN h 1
set_option maxRecDepth 100000 in
theorem uStat_any (r : Int) (w : World) (hr : (Lit.int .i64 r).wf = true) (h : UB w p c q u lk pr m nb eb) (hE : u.E.length ≤ 100000) (hd : ∀ n ∈ u.L, n.kind ≠ 1 → kin u n.ino = 0) :
  Calls Try.prog 10 #[.pointer (some ⟨p, 0, none⟩), .int .i64 r] w fun e w' => e = .returned (.tuple #[.agg (statV u lk r), .int .i64 (statE u r)]) ∧ Below w.heap.size w w' := by
 obtain ⟨w1, hw1⟩ : ∃ w1, w1 = w.alloc (.cells #[.int .i64 0, .int .i64 0, .int .i64 0, .int .i64 0, .int .i64 0, .int .i64 0] 39) := ⟨_, rfl⟩
 have b1 : Below w.heap.size w w1 := by rw [hw1]; exact below_one _ _
 have h1 := h.below b1
 have c2 := h1.c2
 have hl := h1.look hr
 have hp1 : w1.heap[w.heap.size]? = some (.cells #[.int .i64 0, .int .i64 0, .int .i64 0, .int .i64 0, .int .i64 0, .int .i64 0] 39 (0, 0)) := by rw [hw1]; exact heap_new rfl
 cases hn : nd u r with
 | none =>
  have e1 : statE u r = 1 := by unfold statE; rw [hn]; rfl
  have e2 : statV u lk r = #[.int .i64 0, .int .i64 0, .int .i64 0, .int .i64 0, .int .i64 0, .int .i64 0] := by unfold statV; rw [hn]
  rw [e1, e2]
  rw [hn] at hl
  simp only [Option.map_none, Option.getD_none, Option.isSome_none] at hl
  rw [hw1] at c2 hl
  clear h h1 e1 e2 hn hw1 hp1 b1
  go_enter Try.func10, Try.ntmps10
  go_wp2
  refine bodyPost_ret (v := .tuple #[.agg #[.int .i64 0, .int .i64 0, .int .i64 0, .int .i64 0, .int .i64 0, .int .i64 0], .int .i64 1]) ?_ rfl ⟨rfl, below_one _ _⟩
  exact results_cr2 (p := 4) (u := 5) rfl _ _ w.heap.size _ rfl (uload_stat (heap_alloc_new w _) rfl)
 | some n =>
  obtain ⟨n1, n2, v, hv0⟩ := h.at hn
  have hv := hv0.fr (S := fun _ => False) (Fr.of_below b1) (fun h => h) (fun _ _ h => h)
  have hkk : n.kind ≠ 1 → kin u r = 0 := fun e => by have := hd n n1 e; rw [n2] at this; exact this
  have e1 : statE u r = 0 := by unfold statE; rw [hn]; rfl
  have e2 : statV u lk r = #[.int .i64 n.kind, .int .i64 n.mode, .int .i64 n.uid, .int .i64 n.gid, .int .i64 (lk r), .int .i64 (siz u n : Int)] := by unfold statV; rw [hn]
  have hsz : siz u n = n.data.length + n.target.size + kin u r := by unfold siz; rw [n2]
  rw [e1, e2, hsz]
  rw [hn] at hl
  simp only [Option.map_some, Option.getD_some, Option.isSome_some] at hl
  have HH := hide h1
  have HV0 : Hid (NB c w (nb r) n v (lk r) (.map (if n.kind = 1 then some (eb r) else none)) (if n.kind = 1 then pr r else 0)) := hv0
  have HN := hide hn
  have HK := hide (h.kd n n1)
  have k2 := hv.k
  obtain ⟨k3, k4, k5⟩ := hv.mo
  have k10 := hv.l
  have hks : kin u r ≤ 100000 := Nat.le_trans (kin_le u r) hE
  have HSz : Hid (∀ k, Calls Try.prog 25 #[.pointer (some ⟨nb r, 0, none⟩)] (w1.drewN k) fun e w' => e = .returned (.int .i64 ((n.data.length + n.target.size + kin u r : Nat) : Int)) ∧ ∃ k', w' = (w1.drewN k).drewN k') := fun k =>
   usize_any (kin u r) _ (hv.fr (S := fun _ => False) (Fr.of_below (drewN_below w1 k)) (fun h => h) (fun _ _ h => h)) (h.kd n n1) hks (fun k2 => ((h1.drewN k).drewN k2).kids hn hkk _)
  have HB := hide b1
  have HP := hide hp1
  have HSz2 := hide ((HSz.out 1).mono (fun e w' h => (⟨h.1, by obtain ⟨k', hk'⟩ := h.2; rw [hk']; exact upB_drewN (upB_drewN (Below.refl _ w1) _) _⟩ : e = .returned (.int .i64 ((n.data.length + n.target.size + kin u r : Nat) : Int)) ∧ Below w1.heap.size w1 w')))
  rw [show w1.drewN 1 = w1.drew from rfl] at HSz2
  have HBx : Hid (∀ wX, Below w1.heap.size w1 wX → wX.heap[w.heap.size]? = some (.cells #[.int .i64 0, .int .i64 0, .int .i64 0, .int .i64 0, .int .i64 0, .int .i64 0] 39 (0, 0))) := fun wX hX => (hX.block _ (heap_lt hp1)).trans hp1
  generalize n.data.length + n.target.size + kin u r = zz at *
  clear h h1 hv hv0 hn e1 e2 hsz hp1 b1 hkk hd
  go_enter Try.func10, Try.ntmps10
  rw [hw1] at c2 hl
  have HKp : Hid (∀ wX, Below w.heap.size w wX → wX.cell? ⟨nb r, 2, none⟩ = some (.int .i64 n.kind) ∧ wX.cell? ⟨nb r, 3, none⟩ = some (.int .i64 n.mode) ∧ wX.cell? ⟨nb r, 4, none⟩ = some (.int .i64 n.uid) ∧ wX.cell? ⟨nb r, 5, none⟩ = some (.int .i64 n.gid) ∧ wX.cell? ⟨nb r, 10, none⟩ = some (.int .i64 (lk r))) := fun wX hX => by
   have := (hX.block _ (heap_lt HV0.out.box)).trans HV0.out.box
   simp [World.cell?, this, ncs]
  clear k2 k3 k4 k5 k10
  go_wp2_with fail
  subst hw1
  clear c2 hl
  refine wp_region_held_drew (S := fun wX => Below w.heap.size w wX) (by kernel_rfl) (upB_drew HB.out) (fun hHeld => ?_)
  refine wpAnyH_take (i := 0) (oi := ⟨some 20, _, _, _, _, _⟩) (v := ?_) rfl (by kernel_rfl) (by kernel_rfl) (by kernel_rfl) (fun _ _ _ h => h) (Or.inl ⟨by rfl, ?_⟩) (by assumption) ?_
  rotate_left
  ·(intro wS hSw; go_simp; try with_reducible rfl)
  try simp only [Act.put, List.setIfInBounds_toArray, List.set_cons_zero, List.set_cons_succ]
  refine wpAnyH_take (i := 1) (oi := ⟨some 21, _, _, _, _, _⟩) (v := ?_) rfl (by kernel_rfl) (by kernel_rfl) (by kernel_rfl) (fun _ _ _ h => h) (Or.inl ⟨by rfl, ?_⟩) (by assumption) ?_
  rotate_left
  ·(intro wS hSw; go_simp; try with_reducible rfl)
  try simp only [Act.put, List.setIfInBounds_toArray, List.set_cons_zero, List.set_cons_succ]
  refine wpAnyH_take (i := 2) (oi := ⟨some 22, _, _, _, _, _⟩) (v := ?_) rfl (by kernel_rfl) (by kernel_rfl) (by kernel_rfl) (fun _ _ _ h => h) (Or.inl ⟨by rfl, ?_⟩) (by assumption) ?_
  rotate_left
  ·(intro wS hSw; go_simp; try with_reducible rfl)
  try simp only [Act.put, List.setIfInBounds_toArray, List.set_cons_zero, List.set_cons_succ]
  refine wpAnyH_take (i := 3) (oi := ⟨some 23, _, _, _, _, _⟩) (v := ?_) rfl (by kernel_rfl) (by kernel_rfl) (by kernel_rfl) (fun _ _ _ h => h) (Or.inl ⟨by rfl, ?_⟩) (by assumption) ?_
  rotate_left
  ·(intro wS hSw; go_simp; try with_reducible rfl)
  try simp only [Act.put, List.setIfInBounds_toArray, List.set_cons_zero, List.set_cons_succ]
  refine wpAnyH_take (i := 4) (oi := ⟨some 24, _, _, _, _, _⟩) (v := ?_) rfl (by kernel_rfl) (by kernel_rfl) (by kernel_rfl) (fun _ _ _ h => h) (Or.inl ⟨by rfl, ?_⟩) (by assumption) ?_
  rotate_left
  ·(intro wS hSw; obtain ⟨q2, q3, q4, q5, q10⟩ := HKp.out wS hSw; go_simp; try with_reducible rfl)
  try simp only [Act.put, List.setIfInBounds_toArray, List.set_cons_zero, List.set_cons_succ]
  refine wpAnyH_take (i := 5) (oi := ⟨some 25, _, _, _, _, _⟩) (v := ?_) rfl (by kernel_rfl) (by kernel_rfl) (by kernel_rfl) (fun _ _ _ h => h) (Or.inl ⟨by rfl, ?_⟩) (by assumption) ?_
  rotate_left
  ·(intro wS hSw; go_simp; try with_reducible rfl)
  try simp only [Act.put, List.setIfInBounds_toArray, List.set_cons_zero, List.set_cons_succ]
  refine wpAnyH_take (i := 6) (oi := ⟨some 26, _, _, _, _, _⟩) (v := ?_) rfl (by kernel_rfl) (by kernel_rfl) (by kernel_rfl) (fun _ _ _ h => h) (Or.inl ⟨by rfl, ?_⟩) (by assumption) ?_
  rotate_left
  ·(intro wS hSw; go_simp; try with_reducible rfl)
  try simp only [Act.put, List.setIfInBounds_toArray, List.set_cons_zero, List.set_cons_succ]
  refine wpAnyH_take (i := 7) (oi := ⟨some 27, _, _, _, _, _⟩) (v := ?_) rfl (by kernel_rfl) (by kernel_rfl) (by kernel_rfl) (fun _ _ _ h => h) (Or.inl ⟨by rfl, ?_⟩) (by assumption) ?_
  rotate_left
  ·(intro wS hSw; go_simp; try with_reducible rfl)
  try simp only [Act.put, List.setIfInBounds_toArray, List.set_cons_zero, List.set_cons_succ]
  refine wpAnyH_take (i := 8) (oi := ⟨some 28, _, _, _, _, _⟩) (v := ?_) rfl (by kernel_rfl) (by kernel_rfl) (by kernel_rfl) (fun _ _ _ h => h) (Or.inl ⟨by rfl, ?_⟩) (by assumption) ?_
  rotate_left
  ·(intro wS hSw; go_simp; try with_reducible rfl)
  try simp only [Act.put, List.setIfInBounds_toArray, List.set_cons_zero, List.set_cons_succ]
  refine wpAnyH_take (i := 9) (oi := ⟨some 29, _, _, _, _, _⟩) (v := ?_) rfl (by kernel_rfl) (by kernel_rfl) (by kernel_rfl) (fun _ _ _ h => h) (Or.inl ⟨by rfl, ?_⟩) (by assumption) ?_
  rotate_left
  ·(intro wS hSw; obtain ⟨q2, q3, q4, q5, q10⟩ := HKp.out wS hSw; go_simp; try with_reducible rfl)
  try simp only [Act.put, List.setIfInBounds_toArray, List.set_cons_zero, List.set_cons_succ]
  refine wpAnyH_take (i := 10) (oi := ⟨some 30, _, _, _, _, _⟩) (v := ?_) rfl (by kernel_rfl) (by kernel_rfl) (by kernel_rfl) (fun _ _ _ h => h) (Or.inl ⟨by rfl, ?_⟩) (by assumption) ?_
  rotate_left
  ·(intro wS hSw; go_simp; try with_reducible rfl)
  try simp only [Act.put, List.setIfInBounds_toArray, List.set_cons_zero, List.set_cons_succ]
  refine wpAnyH_take (i := 11) (oi := ⟨some 31, _, _, _, _, _⟩) (v := ?_) rfl (by kernel_rfl) (by kernel_rfl) (by kernel_rfl) (fun _ _ _ h => h) (Or.inl ⟨by rfl, ?_⟩) (by assumption) ?_
  rotate_left
  ·(intro wS hSw; go_simp; try with_reducible rfl)
  try simp only [Act.put, List.setIfInBounds_toArray, List.set_cons_zero, List.set_cons_succ]
  refine wpAnyH_take (i := 12) (oi := ⟨some 32, _, _, _, _, _⟩) (v := ?_) rfl (by kernel_rfl) (by kernel_rfl) (by kernel_rfl) (fun _ _ _ h => h) (Or.inl ⟨by rfl, ?_⟩) (by assumption) ?_
  rotate_left
  ·(intro wS hSw; go_simp; try with_reducible rfl)
  try simp only [Act.put, List.setIfInBounds_toArray, List.set_cons_zero, List.set_cons_succ]
  refine wpAnyH_take (i := 13) (oi := ⟨some 33, _, _, _, _, _⟩) (v := ?_) rfl (by kernel_rfl) (by kernel_rfl) (by kernel_rfl) (fun _ _ _ h => h) (Or.inl ⟨by rfl, ?_⟩) (by assumption) ?_
  rotate_left
  ·(intro wS hSw; obtain ⟨q2, q3, q4, q5, q10⟩ := HKp.out wS hSw; go_simp; try with_reducible rfl)
  try simp only [Act.put, List.setIfInBounds_toArray, List.set_cons_zero, List.set_cons_succ]
  refine wpAnyH_take (i := 14) (oi := ⟨some 34, _, _, _, _, _⟩) (v := ?_) rfl (by kernel_rfl) (by kernel_rfl) (by kernel_rfl) (fun _ _ _ h => h) (Or.inl ⟨by rfl, ?_⟩) (by assumption) ?_
  rotate_left
  ·(intro wS hSw; go_simp; try with_reducible rfl)
  try simp only [Act.put, List.setIfInBounds_toArray, List.set_cons_zero, List.set_cons_succ]
  refine wpAnyH_ready (rs := [15]) (by kernel_rfl) (by simp) ?_
  refine AllReadyH.cons (o := ⟨some 35, _, _, _, _, _⟩) rfl (fun K hK => ?_) AllReadyH.nil
  go_simp
  refine HSz2.out.mono ?_
  rintro e w2 ⟨rfl, hb2⟩
  have HX2 := hide (HBx.out w2 hb2)
  refine hK.out _ _ (HB.out.trans (hb2.mono HB.out.size)) (fun hHeld => ?_)
  clear hb2
  clear hK K
  try simp only [Act.put, List.setIfInBounds_toArray, List.set_cons_zero, List.set_cons_succ]
  refine wpAnyH_take (i := 16) (oi := ⟨some 36, _, _, _, _, _⟩) (v := ?_) rfl (by kernel_rfl) (by kernel_rfl) (by kernel_rfl) (fun _ _ _ h => h) (Or.inl ⟨by rfl, ?_⟩) (by assumption) ?_
  rotate_left
  ·(intro wS hSw; go_simp; try with_reducible rfl)
  try simp only [Act.put, List.setIfInBounds_toArray, List.set_cons_zero, List.set_cons_succ]
  refine wpAnyH_switch (S' := fun wX => wX.heap[w.heap.size]? = some (.cells #[.int .i64 n.kind, .int .i64 n.mode, .int .i64 n.uid, .int .i64 n.gid, .int .i64 (lk r), .int .i64 (zz : Int)] 39 (0, 0)) ∧ Below w.heap.size w wX) (fun _ h => h.2) _ _ _ _ ?_
  refine wpAnyH_ready (rs := [17]) (by kernel_rfl) (by simp) ?_
  refine AllReadyH.cons (o := ⟨none, _, _, _, _, _⟩) rfl (fun K hK => ?_) AllReadyH.nil
  refine step_store_row (by rfl) 39 (.tmp 4) (.tmp 36) (by rfl) w.heap.size #[.int .i64 n.kind, .int .i64 n.mode, .int .i64 n.uid, .int .i64 n.gid, .int .i64 (lk r), .int .i64 (zz : Int)] (by rfl) (by rfl) 39 _ HX2.out uinfoStat rfl (by simp [Value.oneCell']) ?_
  refine hK.out _ _ ⟨usetRow_heap HX2.out _, below_setRow hHeld (Nat.le_refl _) _⟩ (fun hHeld => ?_)
  clear hK K
  simp only [Act.put]
  refine wpAnyH_take (i := 18) (oi := ⟨some 5, _, _, _, _, _⟩) (v := ?_) rfl (by kernel_rfl) (by kernel_rfl) (by kernel_rfl) (fun _ _ _ h => h) (Or.inl ⟨by rfl, ?_⟩) (by assumption) ?_
  rotate_left
  ·(intro wS hSw; go_simp; try with_reducible rfl)
  try simp only [Act.put, List.setIfInBounds_toArray, List.set_cons_zero, List.set_cons_succ]
  refine wpAnyH_done (by kernel_rfl) ?_ _
  obtain ⟨hX9, hB9⟩ := hHeld
  go_wp2
  refine bodyPost_ret (v := .tuple #[.agg #[.int .i64 n.kind, .int .i64 n.mode, .int .i64 n.uid, .int .i64 n.gid, .int .i64 (lk r), .int .i64 (zz : Int)], .int .i64 0]) ?_ rfl ⟨rfl, hB9⟩
  exact results_cr2 (p := 4) (u := 5) rfl _ _ w.heap.size _ rfl (uload_stat hX9 rfl)
set_option maxRecDepth 100000 in
theorem uOpaque_any (r : Int) (w : World) (hr : (Lit.int .i64 r).wf = true) (h : UB w p c q u lk pr m nb eb) :
  Calls Try.prog 13 #[.pointer (some ⟨p, 0, none⟩), .int .i64 r] w fun e w' => e = .returned (.bool ((nd u r).map Nod.opq |>.getD false)) ∧ w' = w := by
 have c2 := h.c2
 have hl := h.look hr
 cases hn : nd u r with
 | none =>
  rw [hn] at hl
  simp only [Option.map_none, Option.getD_none, Option.isSome_none] at hl ⊢
  clear h hn
  go_enter Try.func13, Try.ntmps13
  go_wp2
  go_ret
  exact ⟨rfl, rfl⟩
 | some n =>
  obtain ⟨_, _, v, hv⟩ := h.at hn
  have k2 := hv.o
  rw [hn] at hl
  simp only [Option.map_some, Option.getD_some, Option.isSome_some] at hl ⊢
  clear h hn hv
  go_enter Try.func13, Try.ntmps13
  go_wp2
  go_ret
  exact ⟨rfl, rfl⟩
end
end Upr
end Go.Proofs.Ytdobojnokgkbpaa
namespace Go.Proofs.Ytdobojnokgkbpaa
open Go.RowKit Go.Maps
open Nam Tre Tab
open Lz (g)
namespace Upr
def Ext (c c' : Nat → Cl) (w : World) : Prop := ∀ k, k < w.heap.size → c' k = c k
def Up (w : World) (p : Nat) (c : Nat → Cl) (q : Int × Int) (u : Us) : Prop :=
 ∃ pr m nb eb, UB w p c (q.1, q.2, u.nx - 1) u (fun r => (lks u r : Int)) pr m nb eb ∧ Wf u ∧ (∀ e ∈ u.E, knd u e.ref = 1 → pr e.ref = e.dir)
theorem Ext.refl (c : Nat → Cl) (w : World) : Ext c c w := fun _ _ => rfl
section
variable {w w' : World} {p : Nat} {c : Nat → Cl} {u : Us} {lk lk' pr pr' : Int → Int} {m : Nat} {nb eb : Int → Nat}
theorem UB.lks {q : Int × Int × Int} (h : UB w p c q u lk pr m nb eb) (hl : ∀ n ∈ u.L, lk n.ino = lk' n.ino) (hp : ∀ n ∈ u.L, n.kind = 1 → pr n.ino = pr' n.ino) : UB w p c q u lk' pr' m nb eb := by
 refine { h with nod := fun n hn => ?_ }
 obtain ⟨v, hv⟩ := h.nod n hn
 refine ⟨v, ?_⟩
 rw [← hl n hn]
 by_cases e : n.kind = 1
 ·rw [if_pos e] at hv ⊢
  rw [if_pos e] at hv ⊢
  rw [← hp n hn e]; exact hv
 ·rw [if_neg e] at hv ⊢
  rw [if_neg e] at hv ⊢
  exact hv
theorem UB.last {a b l : Int} (h : UB w p c (a, b, l) u lk pr m nb eb) (l' : Int) : UB (w.setCell ⟨p, 3, none⟩ (.int .i64 l')) p c (a, b, l') u lk pr m nb eb ∧ Fr (fun k => c k = .up) w (w.setCell ⟨p, 3, none⟩ (.int .i64 l')) := by
 have hf : Fr (fun k => c k = .up) w (w.setCell ⟨p, 3, none⟩ (.int .i64 l')) := (Fr.refl _ _).set (p := ⟨p, 3, none⟩) _ (fun _ => h.cp)
 have nn : ∀ {k x}, c k = x → x ≠ .up → ¬ c k = .up := fun h1 h2 h3 => h2 (h1.symm.trans h3)
 refine ⟨{ h with box := ?_, map := h.map.same (hf.block m h.map.lt (nn h.cm (by intro e; cases e))), nod := fun n hn => ?_, ent := fun n hn hk => ?_, low := fun b hb => Nat.lt_of_lt_of_le (h.low b hb) hf.size }, hf⟩
 ·rw [heap_setCell_self h.box]; rfl
 ·obtain ⟨v, hv⟩ := h.nod n hn
  exact ⟨v, hv.fr hf (nn (h.cn n hn) (by intro e; cases e)) (fun k hk => nn hk (by intro e; cases e))⟩
 ·exact (h.ent n hn hk).same (hf.block _ (h.ent n hn hk).lt (nn (h.ce n hn hk) (by intro e; cases e)))
end
section
variable {w w' : World} {p : Nat} {c : Nat → Cl} {q : Int × Int} {u : Us}
theorem Up.below (h : Up w p c q u) (hb : Below w.heap.size w w') : Up w' p c q u := by
 obtain ⟨pr, m, nb, eb, h1, h2⟩ := h
 exact ⟨pr, m, nb, eb, h1.below hb, h2⟩
theorem Up.fr {S : Nat → Prop} (h : Up w p c q u) (hf : Fr S w w') (hs : ∀ k, c k ≠ .no → ¬ S k) : Up w' p c q u := by
 obtain ⟨pr, m, nb, eb, h1, h2⟩ := h
 exact ⟨pr, m, nb, eb, h1.fr hf hs, h2⟩
theorem Up.wf (h : Up w p c q u) : Wf u := by obtain ⟨pr, m, nb, eb, h1, h2, _⟩ := h; exact h2
theorem Up.low (h : Up w p c q u) (b : Nat) (hb : c b ≠ .no) : b < w.heap.size := by obtain ⟨pr, m, nb, eb, h1, h2⟩ := h; exact h1.low b hb
end
theorem wf_i64 {x : Int} (h1 : -9223372036854775808 ≤ x) (h2 : x ≤ 9223372036854775807) : (Lit.int .i64 x).wf = true := by
 simp [Lit.wf, IntKind.min, IntKind.max, IntKind.signed, IntKind.bits]
 omega
theorem sm_ref {u : Us} (hw : Wf u) (hs : Sm u) {r : Int} {n : Nod} (h : nd u r = some n) : (Lit.int .i64 r).wf = true := by
 obtain ⟨h1, h2⟩ := nd_some h
 have h3 := hw.rng n h1
 have h4 := hs.2.2
 rw [h2] at h3
 exact wf_i64 (by omega) (by omega)
theorem valid_size {s : ByteArray} (h : valid s.toList = 0) : s.size ≤ 255 := by
 have := toList_length s
 by_cases e : 255 < s.toList.length
 ·have := valid_long (by exact e)
  rw [h] at this; cases this
 ·omega
theorem maxl {n : Nat} (h : n ≤ 9223372036854775807) : n ≤ maxLen := by unfold maxLen; omega
theorem knd_some {u : Us} {r : Int} {n : Nod} (h : nd u r = some n) : knd u r = n.kind := by unfold knd; rw [h]; rfl
theorem Wf.kin0 {u : Us} (h : Wf u) {r : Int} (hr : knd u r ≠ 1) : kin u r = 0 := by
 unfold kin
 rw [List.countP_eq_zero]
 intro e he hd
 simp only [decide_eq_true_eq] at hd
 obtain ⟨n, h1, h2⟩ := h.ndd he
 rw [hd] at h1
 exact hr (by rw [knd_some h1]; exact h2)
theorem Wf.nxk {u : Us} (h : Wf u) : nd u u.nx = none := nd_none.2 (fun n hn e => by have := h.rng n hn; omega)
theorem Wf.nxe {u : Us} (h : Wf u) (y : ByteArray) : en u u.nx y = none := en_none.2 (fun e he hd => by
 obtain ⟨n, h1, h2, _⟩ := h.dir e he
 have := h.rng n h1
 rw [h2, hd.1] at this
 omega)
theorem Wf.nxr {u : Us} (h : Wf u) : ∀ e ∈ u.E, e.ref ≠ u.nx := fun e he z => by
 obtain ⟨_, n, h1, h2⟩ := h.ref e he
 have := h.rng n h1
 rw [h2, z] at this
 omega
theorem lks_snoc {u : Us} (d : Int) (s : ByteArray) (r x : Int) (L : List Nod) (nx : Int) : lks ⟨L, u.E ++ [⟨d, s, r⟩], nx⟩ x = if x ≠ 1 ∧ x = r then lks u x + 1 else lks u x := by
 unfold lks cnt
 rw [List.countP_append, List.countP_cons, List.countP_nil]
 by_cases e1 : x = 1
 ·rw [if_pos e1, if_pos e1, if_neg (fun z => z.1 e1)]
 ·rw [if_neg e1, if_neg e1]
  by_cases e2 : r = x
  ·rw [if_pos (by simpa using e2), if_pos ⟨e1, e2.symm⟩]
  ·rw [if_neg (by simpa using e2), if_neg (fun z => e2 z.2.symm)]; rfl
theorem lks_nx {u : Us} (h : Wf u) : lks u u.nx = 0 := by
 have := h.pos
 unfold lks cnt
 rw [if_neg (by omega), List.countP_eq_zero]
 intro e he z
 exact h.nxr e he (by simpa using z)
end Upr
end Go.Proofs.Ytdobojnokgkbpaa
namespace Go.Proofs.Ytdobojnokgkbpaa
open Go.RowKit Go.Maps
open Nam Tre Tab
open Lz (g)
namespace Upr
section
variable {w : World} {ops : Array Oper} {rest : List Oper} {o : Oper} {a : Act} {Q : Exit → Act → World → Prop}
theorem wpList_next_s (hg : o.guard = none) (it : Operand) (hop : o.op = Op.next it false) (b r sz : Nat) (f : ByteArray → Option Value) (left : ByteArray → Bool) (cnt : Nat) (hit : a.eval it = .pointer (some ⟨r, 0, none⟩)) (h : RgS w b r sz f left cnt)
  (hDone : (∀ x, left x = false) → wpList Try.prog ops Q rest (a.put o.dst (.tuple #[.bool false])) w)
  (hMore : ∀ x v w' cnt', x.size ≤ maxLen → left x = true → f x = some v → RgS w' b r sz f (fun z => left z && !decide (z = x)) cnt' → cnt' < cnt → w.grownBy w' (some r) → w'.heap.size = w.heap.size → (Instr.entry (.pointer (some ⟨r, 0, none⟩))).run Try.prog w' = .ok (.tuple #[.string x, v]) w' →
   wpList Try.prog ops Q rest (a.put o.dst (.tuple #[.bool true, .string x, v])) w') :
  wpList Try.prog ops Q (o :: rest) a w := by
 refine wpList_plain hg fun K' hK' => ?_
 unfold Oper.wp
 rcases h.next o.type with ⟨_, hl, hrun⟩ | ⟨x, v, w', cnt', q1, q2, q3, hrun, q4, q5, q6, q7, q8⟩
 ·simp [execOp, hop, hit, hrun, Result.andThen]
  exact hK' _ _ (hDone hl)
 ·simp [execOp, hop, hit, hrun, Result.andThen]
  exact hK' _ _ (hMore x v w' cnt' q1 q2 q3 q4 q5 q6 q7 q8)
theorem wpList_next_i (hg : o.guard = none) (it : Operand) (hop : o.op = Op.next it false) (b r sz : Nat) (f : Int → Option Value) (left : Int → Bool) (cnt : Nat) (hit : a.eval it = .pointer (some ⟨r, 0, none⟩)) (h : RgI w b r sz f left cnt)
  (hDone : (∀ x, left x = false) → wpList Try.prog ops Q rest (a.put o.dst (.tuple #[.bool false])) w)
  (hMore : ∀ x v w' cnt', (Lit.int .i64 x).wf = true → left x = true → f x = some v → RgI w' b r sz f (fun z => left z && !decide (z = x)) cnt' → cnt' < cnt → w.grownBy w' (some r) → w'.heap.size = w.heap.size → (Instr.entry (.pointer (some ⟨r, 0, none⟩))).run Try.prog w' = .ok (.tuple #[.int .i64 x, v]) w' →
   wpList Try.prog ops Q rest (a.put o.dst (.tuple #[.bool true, .int .i64 x, v])) w') :
  wpList Try.prog ops Q (o :: rest) a w := by
 refine wpList_plain hg fun K' hK' => ?_
 unfold Oper.wp
 rcases h.next o.type with ⟨_, hl, hrun⟩ | ⟨x, v, w', cnt', q1, q2, q3, hrun, q4, q5, q6, q7, q8⟩
 ·simp [execOp, hop, hit, hrun, Result.andThen]
  exact hK' _ _ (hDone hl)
 ·simp [execOp, hop, hit, hrun, Result.andThen]
  exact hK' _ _ (hMore x v w' cnt' q1 q2 q3 q4 q5 q6 q7 q8)
end
section
variable {p : Nat} {c : Nat → Cl} {q : Int × Int × Int} {u : Us} {lk pr : Int → Int} {m : Nat} {nb eb : Int → Nat}
def fullB (u : Us) (r : Int) : Bool := u.E.any (fun x => decide (x.dir = r) && !decide (knd u x.ref = 4))
set_option maxRecDepth 100000 in
set_option maxHeartbeats 1000000 in
theorem ufull_any (r : Int) (w : World) (h : UB w p c q u lk pr m nb eb) (href : ∀ e ∈ u.E, (Lit.int .i64 e.ref).wf = true ∧ ∃ n, nd u e.ref = some n) {n : Nod} (hn : nd u r = some n) (h0 : n.kind ≠ 1 → kin u r = 0) :
  Calls Try.prog 29 #[.pointer (some ⟨p, 0, none⟩), .pointer (some ⟨nb r, 0, none⟩)] w fun e w' => e = .returned (.bool (fullB u r)) ∧ Below w.heap.size w w' := by
 obtain ⟨n1, n2, v, hv⟩ := h.at hn
 have e1 := hv.e
 by_cases hk : n.kind = 1
 ·rw [if_pos hk] at e1
  obtain ⟨w1, rr, hrg, hg1, hs1⟩ := (h.ents hn hk).range Try.underlying73
  have HR := hide hrg
  have HB1 : Hid (Below w.heap.size w w1) := (Below.refl _ _).grown hg1 (Nat.le_refl _) (fun k e => by cases e)
  have HH := hide h
  have HKey := hide h.key
  have HRef := hide href
  clear h hv hrg hg1 href h0
  go_enter Try.func29, Try.ntmps29
  go_wp2
  go_loopw [6] (fun _ wr => ∃ (left : ByteArray → Bool) (cnt : Nat), RgS wr (eb r) w.heap.size (kin u r) (enF u r) left cnt ∧ Below w.heap.size w wr ∧ ∀ s e, en u r s = some e → left s = false → knd u e.ref = 4) (fun _ wr => wr.rangeLeft (eb r) w.heap.size)
  case atStart => exact ⟨_, _, HR.out, HB1.out, fun s e he hl => by simp [enF, he] at hl⟩
  case round =>
   obtain ⟨left, cnt, hrg, hbr, hvis⟩ := hrel
   have HG := hide hrg
   have HB := hide hbr
   have HV := hide hvis
   clear hrg hbr hvis
   go_wp2_with (first
    | (at_next; refine wpList_next_s rfl _ rfl (eb r) w.heap.size _ _ _ _ rfl HG.out ?_ ?_)
    | go_in)
   ·intro hl
    have HF : Hid (fullB u r = false) := by
     show fullB u r = false
     unfold fullB
     rw [List.any_eq_false]
     intro x hx hh
     simp only [Bool.and_eq_true, decide_eq_true_eq, Bool.not_eq_true', decide_eq_false_iff_not] at hh
     have := en_mem HKey.out hx
     rw [hh.1] at this
     exact hh.2 (HV.out x.nam x this (hl _))
    clear hl
    go_wp2
    go_ret
    exact ⟨ret_bool HF.out.symm, HB.out⟩
   ·intro x vv w2 cnt2 hx hlx hfx hrg2 hlt hg2 hs2 hen
    have hB2 : Below w.heap.size w w2 := HB.out.grown hg2 HB.out.size (fun k e => by cases e; exact Nat.le_refl _)
    unfold enF at hfx
    cases hex : en u r x with
    | none => rw [hex] at hfx; cases hfx
    | some e =>
     rw [hex] at hfx
     obtain rfl : Value.int .i64 e.ref = vv := by simpa using hfx
     obtain ⟨x1, x2, x3⟩ := en_some hex
     obtain ⟨wf2, n3, hn3⟩ := HRef.out e x1
     have h2 := HH.out.below hB2
     have c2 := h2.c2
     have l2 := h2.get wf2 hn3
     obtain ⟨_, _, v3, hv3⟩ := h2.at hn3
     have k3 := hv3.k
     have HB2 := hide hB2
     have HG2 := hide hrg2
     have HM : Hid (w2.rangeLeft (eb r) w.heap.size < wr.rangeLeft (eb r) w.heap.size) := by
      show _ < _
      rw [hrg2.left_eq, HG.out.left_eq]; exact hlt
     clear h2 hv3 hB2 hrg2 hg2 hlt hfx
     by_cases h4 : n3.kind = 4
     ·have k4 : (n3.kind == 4) = true := by simpa using h4
      have HN : Hid (∀ s e', en u r s = some e' → (left s && !decide (s = x)) = false → knd u e'.ref = 4) := fun s e' he' hl' => by
       by_cases es : s = x
       ·rw [es, hex] at he'
        cases he'
        rw [knd_some hn3]; exact h4
       ·exact HV.out s e' he' (by simpa [es] using hl')
      rw [h4] at k3
      clear h4 k4
      go_wp2
      exact ⟨⟨_, cnt2, HG2.out, HB2.out, HN.out⟩, HM.out⟩
     ·have k4 : (n3.kind == 4) = false := by simpa using h4
      have HF : Hid (fullB u r = true) := by
       show fullB u r = true
       unfold fullB
       rw [List.any_eq_true]
       refine ⟨e, x1, ?_⟩
       rw [knd_some hn3]
       simp [x2, h4]
      clear h4
      go_wp2
      go_ret
      exact ⟨ret_bool HF.out.symm, HB2.out⟩
 ·rw [if_neg hk] at e1
  have HF : Hid (fullB u r = false) := by
   show fullB u r = false
   unfold fullB
   rw [List.any_eq_false]
   intro x hx hh
   simp only [Bool.and_eq_true, decide_eq_true_eq] at hh
   have := h0 hk
   unfold kin at this
   rw [List.countP_eq_zero] at this
   exact this x hx (by simpa using hh.1)
  have hrg := run_range_nilMap (P := Try.prog) w 73 9 3 Try.underlying73
  have hnx : ∀ ty, (Instr.next (.pointer (some ⟨w.heap.size, 0, none⟩)) false ty).run Try.prog (w.alloc (.mapIter none 0 #[] 0)) = _ := fun ty => run_next_nilMap w ty 0 0 #[]
  clear h hv h0 hk hn
  go_enter Try.func29, Try.ntmps29
  go_wp2
  refine wp_loop_rounds 1 ?_
  rw [rounds_succ]
  go_wp2
  go_ret
  exact ⟨ret_bool HF.out.symm, below_one _ _⟩
end
end Upr
end Go.Proofs.Ytdobojnokgkbpaa
namespace Go.Proofs.Ytdobojnokgkbpaa
open Go.RowKit Go.Maps
open Nam Tre Tab
open Lz (g)
namespace Upr
def newc (lo hi : Nat) (b : Nat) : Cl := if lo ≤ b ∧ b < hi then .dat else .no
theorem newc_dat {lo hi b : Nat} : newc lo hi b = .dat ↔ lo ≤ b ∧ b < hi := by
 unfold newc
 by_cases h : lo ≤ b ∧ b < hi
 ·rw [if_pos h]; exact ⟨fun _ => h, fun _ => rfl⟩
 ·rw [if_neg h]; exact ⟨fun e => by (cases e), fun e => absurd e h⟩
structure NewX (w w' : World) (ao : Option Addr) (n cc : Nat) (xs : List (ByteArray × List Int)) : Prop where
 xs : XsC (newc w.heap.size w'.heap.size) w' ao n xs
 cap : n ≤ cc
 max : cc ≤ 9223372036854775807
 nil : ao = none → cc = 0
 bel : Below w.heap.size w w'
theorem ueql_nil (w : World) (a : Option Addr) (n c : Nat) : (binOp .eql 26 (.slice a n c) (.slice none 0 0)).run Try.prog w = .ok (.bool a.isNone) w := by
 simp only [binOp]
 simp [run_equal_slice_nil w 26 47 a n c Try.underlying26]
set_option maxRecDepth 100000 in
theorem uclonex_any (w : World) (ao : Option Addr) (n cc : Nat) (X : List Xv) (hX : X.length = n) (h : n = 0 ∨ ∃ b off, ao = some ⟨b, off, none⟩ ∧ b < w.heap.size ∧ ∀ j u, (xvs X)[j]? = some u → w.cell? ⟨b, off + j, none⟩ = some u) (hnil : ao = none → cc = 0) (hc : n ≤ cc) (hn : n ≤ 1000000) :
  Calls Try.prog 40 #[.slice ao n cc] w fun e w' => ∃ ao' c', e = .returned (.slice ao' n c') ∧ w'.ownsRow w.heap.size 47 2 (.slice ao' n c') n (xvs X) ∧ Below w.heap.size w w' := by
 cases ao with
 | none =>
  obtain rfl : cc = 0 := hnil rfl
  obtain rfl : n = 0 := by omega
  obtain rfl : X = [] := List.eq_nil_of_length_eq_zero hX
  have H : Hid (w.ownsRow w.heap.size 47 2 (.slice none 0 0) 0 (xvs []) ∧ Below w.heap.size w w) := ⟨World.ownsRow_nil _ _ _ _, Below.refl _ _⟩
  clear h hnil
  have hq : ∀ w : World, (binOp .eql 26 (.slice none 0 0) (.slice none 0 0)).run Try.prog w = .ok (.bool true) w := fun w => ueql_nil w none 0 0
  go_enter Try.func40, Try.ntmps40
  go_wp2
  go_ret
  exact ⟨_, _, rfl, H.out⟩
 | some ad =>
  clear hnil
  have hq : ∀ w : World, (binOp .eql 26 (.slice (some ad) n cc) (.slice none 0 0)).run Try.prog w = .ok (.bool false) w := fun w => ueql_nil w (some ad) n cc
  obtain ⟨i0, hi, hz0, hz1, hz2⟩ := info_parts infoXat
  have ho := emptyR (w := w) (t := 47) (size := 2) (Nat.le_refl w.heap.size)
  obtain ⟨v', w', hr, ho', hg, _⟩ := run_append_own (P := Try.prog) (w.alloc (.cells #[] 47)) w.heap.size 26 26 47 i0 (.agg #[.string ⟨#[]⟩, .slice none 0 0]) 2 40 Try.underlying26 hi hz0 hz1 hz2 rfl (by decide) _ 0 [] ho ad n cc (xvs X) (by rw [xvs_length, hX]) (by
   rcases h with h0 | ⟨b, off, h1, hb, hseg⟩
   ·have : X = [] := List.eq_nil_of_length_eq_zero (by omega)
    subst this
    intro j u hu; simp [xvs] at hu
   ·obtain rfl := Option.some.inj h1
    intro j u hu
    rw [Addr.add_lit]
    exact ((below_one w _).cell (p := ⟨b, off + j, none⟩) hb).trans (hseg j u hu)) (xvs_one _) (by unfold maxLen; omega) (by omega) (by simp)
  rw [Nat.zero_add, List.nil_append] at ho'
  obtain ⟨ao', c', rfl⟩ := owns_shape ho'
  have H : Hid (w'.ownsRow w.heap.size 47 2 (.slice ao' n c') n (xvs X) ∧ Below w.heap.size w w') := ⟨ho', (below_one w _).grown hg (by simp) (fun k e => (ho.lt k e).1)⟩
  clear h ho ho' hg hi hz0 hz1 hz2
  go_enter Try.func40, Try.ntmps40
  go_wp2_with (at_builtin; refine wpList_append_run rfl _ _ _ rfl _ _ _ rfl rfl hr ?_)
  go_ret
  exact ⟨_, _, rfl, H.out⟩
structure Cpd (w wr : World) (xa : Option Addr) (xc n : Nat) (X X' : List Xv) (xs : List (ByteArray × List Int)) (i : Nat) : Prop where
 bel : Below w.heap.size w wr
 row : wr.ownsRow w.heap.size 47 2 (.slice xa n xc) n (xvs X')
 len : X'.length = n
 old : ∀ j, i ≤ j → gX X' j = gX X j
 new : ∀ j, j < i → (gX X' j).s = (gX X j).s ∧ Bs wr (gX X' j).va (gX X' j).vn (gx xs j).2 ∧ (gX X' j).vn ≤ (gX X' j).vc ∧ (gX X' j).vc ≤ 9223372036854775807 ∧ ((gX X' j).va = none → (gX X' j).vc = 0) ∧ ∀ a, (gX X' j).va = some a → w.heap.size ≤ a.block ∧ xa ≠ some ⟨a.block, 0, none⟩
theorem Cpd.step {w wr w5 : World} {n xc gb i : Nat} {X X' : List Xv} {xs : List (ByteArray × List Int)} (h : Cpd w wr (some ⟨gb, 0, none⟩) xc n X X' xs i) (hi : i < n) {ao : Option Addr} {vn vc : Nat} (hN : New wr w5 ao vn vc (gx xs i).2) :
  Cpd w (w5.setCell ⟨gb, i * 2 + 1, none⟩ (.slice ao vn vc)) (some ⟨gb, 0, none⟩) xc n X (X'.set i ⟨(gX X' i).s, ao, vn, vc⟩) xs (i + 1) := by
 have row5 := owns_below h.row hN.bel
 have hgl : gb < wr.heap.size := by
  obtain ⟨cur, hc⟩ := owns_obj h.row rfl
  exact heap_lt hc
 have hgw := (h.row.lt gb rfl).1
 have fr : Fr (fun k => k = gb) wr (w5.setCell ⟨gb, i * 2 + 1, none⟩ (.slice ao vn vc)) := (Fr.of_below hN.bel).set (p := ⟨gb, i * 2 + 1, none⟩) _ (fun _ => rfl)
 refine ⟨(h.bel.trans (hN.bel.mono h.bel.size)).setCell (by exact hgw) _, own_set row5 h.len hi ao vn vc, by rw [List.length_set]; exact h.len, fun j hj => ?_, fun j hj => ?_⟩
 ·rw [gX_set _ _ _ _ (by rw [h.len]; exact hi), if_neg (by omega)]
  exact h.old j (by omega)
 ·rw [gX_set _ _ _ _ (by rw [h.len]; exact hi)]
  by_cases e : j = i
  ·subst e
   rw [if_pos rfl]
   refine ⟨by rw [h.old j (Nat.le_refl _)], ?_, hN.cap, hN.max, hN.nil, fun a ha => ?_⟩
   ·have fr5 : Fr (fun k => k = gb) w5 (w5.setCell ⟨gb, j * 2 + 1, none⟩ (.slice ao vn vc)) := (Fr.refl _ _).set (p := ⟨gb, j * 2 + 1, none⟩) _ (fun _ => rfl)
    exact hN.bs.fr fr5 (fun a ha _ hx => by have := (hN.own a ha).1; have hx' : a.block = gb := hx; omega)
   ·have := (hN.own a ha).1
    exact ⟨Nat.le_trans h.bel.size this, fun e => by injection e with e; injection e with e; omega⟩
  ·rw [if_neg e]
   obtain ⟨q1, q2, q3, q4, q5, q6⟩ := h.new j (by omega)
   exact ⟨q1, q2.fr fr (fun a ha _ hx => (q6 a ha).2 (by have hx' : a.block = gb := hx; rw [hx'])), q3, q4, q5, q6⟩
theorem Cpd.fin {w wr : World} {xa : Option Addr} {xc n : Nat} {X X' : List Xv} {xs : List (ByteArray × List Int)} (h : Cpd w wr xa xc n X X' xs n) (hx : xs.length = n) (hs : ∀ i, i < n → (gx xs i).1 = (gX X i).s ∧ (gx xs i).1.size ≤ 9223372036854775807) : NewX w wr xa n xc xs := by
 have hc := cap_owns h.row
 refine ⟨⟨hx, ?_⟩, hc.1, hc.2.1, hc.2.2, h.bel⟩
 by_cases e : n = 0
 ·exact .inl e
 ·obtain ⟨gb, c', hv, hlo, hlt⟩ := h.row.form (by omega)
  obtain ⟨rfl, _, rfl⟩ : xa = some ⟨gb, 0, none⟩ ∧ n = n ∧ xc = c' := by simpa using hv
  have lo := (h.row.lt gb rfl).1
  refine .inr ⟨gb, 0, rfl, hlt, newc_dat.2 ⟨lo, hlt⟩, fun i hi => ?_⟩
  obtain ⟨q1, q2, q3, q4, q5, q6⟩ := h.new i hi
  obtain ⟨s1, s2⟩ := hs i hi
  have hg := xvs_get X' i (by rw [h.len]; exact hi)
  refine ⟨?_, (gX X' i).va, (gX X' i).vn, (gX X' i).vc, ?_, q2, fun a ha h0 => ?_, q3, q4, q5, s2⟩
  ·rw [Nat.zero_add, h.row.cellAt _ (by omega), hg.1, ← gX_lt X' i (by rw [h.len]; exact hi), q1, s1]
  ·rw [Nat.zero_add, h.row.cellAt _ (by omega), hg.2, ← gX_lt X' i (by rw [h.len]; exact hi)]
  ·refine newc_dat.2 ⟨(q6 a ha).1, ?_⟩
   rcases q2.2.2 with h1 | ⟨b, off, h1, h2, _⟩
   ·omega
   ·rw [ha] at h1; injection h1 with h1; rw [h1]; exact h2
set_option maxRecDepth 100000 in
set_option maxHeartbeats 1000000 in
theorem ucopied_any (ao : Option Addr) (n cc : Nat) (xs : List (ByteArray × List Int)) (w : World) (h : XsR w ao n xs) (hc : n ≤ cc) (hcm : cc ≤ 9223372036854775807) (hnil : ao = none → cc = 0) (hn : n ≤ 1000000) (hv : ∀ x ∈ xs, x.2.length ≤ 1000000) :
  Calls Try.prog 26 #[.slice ao n cc] w fun e w' => ∃ ao' c', e = .returned (.slice ao' n c') ∧ NewX w w' ao' n c' xs := by
 obtain ⟨X, hX1, hX2, hX3⟩ := h.xv
 have hX3' : n = 0 ∨ ∃ b off, ao = some ⟨b, off, none⟩ ∧ b < w.heap.size ∧ ∀ j u, (xvs X)[j]? = some u → w.cell? ⟨b, off + j, none⟩ = some u := by
  by_cases e : n = 0
  ·exact .inl e
  ·obtain ⟨b, off, h1, h2, _⟩ := h.at (by omega)
   rcases hX3 with h0 | ⟨b', off', h1', h3⟩
   ·exact absurd h0 e
   ·rw [h1] at h1'
    injection h1' with h1'
    injection h1' with e1 e2
    subst e1; subst e2
    exact .inr ⟨b, off, h1, h2, h3⟩
 have HCl := hide (uclonex_any w ao n cc X hX1 hX3' hnil hc hn)
 have HX2 : Hid (∀ i, i < n → ∀ W, Below w.heap.size w W → Bs W (gX X i).va (gX X i).vn (gx xs i).2 ∧ (gX X i).vn ≤ (gX X i).vc ∧ ((gX X i).va = none → (gX X i).vc = 0) ∧ (gX X i).vn ≤ 1000000) := fun i hi W hW => by
  obtain ⟨q1, q2, q3, q4, q5, q6⟩ := hX2 i hi
  refine ⟨q2.below hW, q3, q5, ?_⟩
  rw [← q2.1]
  exact hv _ (by rw [gx_lt _ _ (by rw [h.1]; exact hi)]; exact List.getElem_mem _)
 have HS : Hid (∀ i, i < n → (gx xs i).1 = (gX X i).s ∧ (gx xs i).1.size ≤ 9223372036854775807) := fun i hi => ⟨(hX2 i hi).1, (hX2 i hi).2.2.2.2.2⟩
 have HL := hide h.1
 clear h hX2 hX3 hX3' hnil hv
 go_enter Try.func26, Try.ntmps26
 go_wp2_with (go_at_call 40; refine HCl.out.mono ?_; rintro e w1 ⟨xa, xc, rfl, hO, hB⟩; have HO := hide hO; have HB := hide hB; clear hO hB)
 go_loopw [3, 8] (fun _ r wr => ∃ (i : Nat) (X' : List Xv), r = .int .i64 i ∧ i ≤ n ∧ Cpd w wr xa xc n X X' xs i) (fun _ r _ => n - (intOf r).toNat)
 case atStart => exact ⟨0, X, rfl, Nat.zero_le _, HB.out, HO.out, hX1, fun _ _ => rfl, fun j hj => by omega⟩
 case round =>
  obtain ⟨i, X', rfl, hi0, hm⟩ := hrel
  have HM := hide hm
  by_cases hi : i < n
  ·have hd : decide ((i : Int) < n) = true := by simpa using hi
   have hi1 : (i : Int) < n := by omega
   obtain ⟨gb, xc', hv, hlo, hgl⟩ := hm.row.form (by omega)
   obtain ⟨rfl, _, rfl⟩ : xa = some ⟨gb, 0, none⟩ ∧ n = n ∧ xc = xc' := by simpa using hv
   have hcv : wr.cell? ⟨gb, i * 2 + 1, none⟩ = some (.slice (gX X i).va (gX X i).vn (gX X i).vc) := by
    rw [hm.row.cellAt _ (by omega), (xvs_get X' i (by rw [hm.len]; exact hi)).2, ← gX_lt X' i (by rw [hm.len]; exact hi), hm.old i (Nat.le_refl _)]
   obtain ⟨q1, q2, q3, q4⟩ := HX2.out i hi wr hm.bel
   have HCv := hide (CloneNew_any _ _ _ _ wr q1 q2 q3 (by omega))
   have HMf : Hid (∀ w5, Below wr.heap.size wr w5 → w5.frozen? ⟨gb, i * 2 + 1, none⟩ = false ∧ w5.cell? ⟨gb, i * 2 + 1, none⟩ = some (.slice (gX X i).va (gX X i).vn (gX X i).vc)) := fun w5 h5 => ⟨(owns_below HM.out.row h5).frozenAt _, (h5.cell (p := ⟨gb, i * 2 + 1, none⟩) hgl).trans hcv⟩
   have hcl := hm.row
   clear hm hv hcl q1 q2 q3 q4 HCl HO HB
   go_wp2_with fail
   refine HCv.out.mono ?_
   rintro e w5 ⟨av, cv, rfl, hN⟩
   have mfz := (HMf.out w5 hN.bel).1
   have mcv := (HMf.out w5 hN.bel).2
   have HST := hide (HM.out.step hi hN)
   clear hN HMf HCv
   go_wp2
   exact ⟨⟨i + 1, _, by go_num, by omega, HST.out⟩, by simp [intOf]; omega⟩
  ·have hd : decide ((i : Int) < n) = false := by simpa using hi
   obtain rfl : i = n := by omega
   have HF := hide (hm.fin HL.out HS.out)
   clear hm
   go_wp2
   go_ret
   exact ⟨_, _, rfl, HF.out⟩
section
variable {p : Nat} {c : Nat → Cl} {q : Int × Int × Int} {u : Us} {lk pr : Int → Int} {m : Nat} {nb eb : Int → Nat}
def xaV (u : Us) (r : Int) : List (ByteArray × List Int) := ((nd u r).map Nod.xs).getD []
theorem NewX.none (w : World) : NewX w w none 0 0 [] := ⟨⟨rfl, .inl rfl⟩, Nat.le_refl _, by omega, fun _ => rfl, Below.refl _ _⟩
set_option maxRecDepth 100000 in
theorem uXattrs_any (r : Int) (w : World) (hr : (Lit.int .i64 r).wf = true) (h : UB w p c q u lk pr m nb eb) :
  Calls Try.prog 11 #[.pointer (some ⟨p, 0, none⟩), .int .i64 r] w fun e w' => ∃ ao' c', e = .returned (.tuple #[.slice ao' (xaV u r).length c', .int .i64 (statE u r)]) ∧ NewX w w' ao' (xaV u r).length c' (xaV u r) := by
 have c2 := h.c2
 have hl := h.look hr
 cases hn : nd u r with
 | none =>
  have e1 : statE u r = 1 := by unfold statE; rw [hn]; rfl
  have e2 : xaV u r = [] := by unfold xaV; rw [hn]; rfl
  have HN := hide (NewX.none w)
  rw [e1, e2]
  rw [hn] at hl
  simp only [Option.map_none, Option.getD_none, Option.isSome_none] at hl
  clear h hn e1 e2
  go_enter Try.func11, Try.ntmps11
  go_wp2
  go_ret2
  exact ⟨none, 0, rfl, HN.out⟩
 | some n =>
  obtain ⟨n1, n2, v, hv⟩ := h.at hn
  obtain ⟨_, _, m3, m4, _⟩ := may_small (h.kd n n1)
  have k2 := hv.x
  have e1 : statE u r = 0 := by unfold statE; rw [hn]; rfl
  have e2 : xaV u r = n.xs := by unfold xaV; rw [hn]; rfl
  have hlen := hv.xs.1
  have HC := hide (ucopied_any v.xa v.xn v.xc n.xs w hv.xs.xsr hv.xc hv.xcm hv.xnil (by omega) (fun x hx => by have := (m4 x hx).2; omega))
  rw [e1, e2, hlen]
  rw [hn] at hl
  simp only [Option.map_some, Option.getD_some, Option.isSome_some] at hl
  clear h hn hv e1 e2 hlen m4
  go_enter Try.func11, Try.ntmps11
  go_wp2_with (go_at_call 26; refine HC.out.mono ?_; rintro e w5 ⟨ao, c5, rfl, hN⟩)
  go_ret2
  exact ⟨ao, c5, rfl, hN⟩
end
end Upr
end Go.Proofs.Ytdobojnokgkbpaa
namespace Go.Proofs.Ytdobojnokgkbpaa
open Go.RowKit Go.Maps
open Nam Tre Tab
open Lz (g)
namespace Upr
theorem uwithin_any (x m : Int) (w : World) :
  Calls Try.prog 42 #[.int .i64 x, .int .i64 m] w fun e w' => e = .returned (.bool (upB x m)) ∧ w' = w := by
 have HQ := hide (show upB x m = decide (0 ≤ x ∧ x ≤ m) from rfl)
 by_cases h : 0 ≤ x
 ·go_enter Try.func42, Try.ntmps42
  go_wp2
  go_ret
  exact ⟨ret_bool (by rw [HQ.out]; simp [h]), rfl⟩
 ·have h' : x < 0 := by omega
  go_enter Try.func42, Try.ntmps42
  go_wp2
  go_ret
  exact ⟨ret_bool (by rw [HQ.out]; simp; omega), rfl⟩
set_option maxRecDepth 100000 in
theorem uattr_any (x y z : Int) (w : World) (q : Bool) (hq : (upB x 511 && upB y 65535 && upB z 65535) = q) :
  Calls Try.prog 37 #[.agg #[.int .i64 x, .int .i64 y, .int .i64 z]] w fun e w' => e = .returned (.bool q) ∧ Below w.heap.size w w' := by
 obtain ⟨a, ha⟩ : ∃ q, upB x 511 = q := ⟨_, rfl⟩
 obtain ⟨b, hb⟩ : ∃ q, upB y 65535 = q := ⟨_, rfl⟩
 have HE := hide hq
 have bel : Hid (∀ o, Below w.heap.size w (w.alloc o)) := fun o => (Below.refl _ _).alloc (Nat.le_refl _) _
 clear hq
 cases a with
 | false =>
  go_enter Try.func37, Try.ntmps37
  go_wp2_with (go_at_call 42; refine (uwithin_any _ _ _).mono ?_; rintro e w' ⟨rfl, rfl⟩)
  go_ret
  exact ⟨ret_bool (by rw [← HE.out, ha]; rfl), bel.out _⟩
 | true =>
 cases b with
 | false =>
  go_enter Try.func37, Try.ntmps37
  go_wp2_with (go_at_call 42; refine (uwithin_any _ _ _).mono ?_; rintro e w' ⟨rfl, rfl⟩)
  go_ret
  exact ⟨ret_bool (by rw [← HE.out, ha, hb]; rfl), bel.out _⟩
 | true =>
  go_enter Try.func37, Try.ntmps37
  go_wp2_with (go_at_call 42; refine (uwithin_any _ _ _).mono ?_; rintro e w' ⟨rfl, rfl⟩)
  go_ret
  exact ⟨ret_bool (by rw [← HE.out, ha, hb]; rfl), bel.out _⟩
theorem utarget_any (s : ByteArray) (w : World) (q : Bool) (hq : txt s.toList 200 = q) :
  Calls Try.prog 44 #[.string s] w fun e w' => e = .returned (.bool q) ∧ w' = w := by
 obtain ⟨a, ha⟩ : ∃ q, s.toList.isEmpty = q := ⟨_, rfl⟩
 obtain ⟨b, hb⟩ : ∃ q, decide ((s.size : Int) ≤ (200 : Nat)) = q := ⟨_, rfl⟩
 obtain ⟨z, hz⟩ : ∃ z, Lib.indexByte s.data.toList 0 = z := ⟨_, rfl⟩
 obtain ⟨c, hc⟩ : ∃ q, decide (z < 0) = q := ⟨_, rfl⟩
 have HE := hide (txt_eq s 200 a b c ha hb (by rw [hz]; exact hc))
 have HZ := hide hz
 have HQ := hide hq
 clear hz hq
 cases a with
 | true =>
  go_enter Try.func44, Try.ntmps44
  go_wp2
  go_ret
  exact ⟨ret_bool (by rw [← HQ.out, HE.out]; rfl), rfl⟩
 | false =>
 cases b with
 | false =>
  have hb2 : ¬ s.size ≤ 200 := by have := of_decide_eq_false hb; omega
  have hb3 : decide ((s.size : Int) ≤ 200) = false := hb
  clear hb
  go_enter Try.func44, Try.ntmps44
  go_wp2
  go_ret
  exact ⟨ret_bool (by rw [← HQ.out, HE.out]; rfl), rfl⟩
 | true =>
  have hb2 : s.size ≤ 200 := by have := of_decide_eq_true hb; omega
  have hb3 : decide ((s.size : Int) ≤ 200) = true := hb
  clear hb
  go_enter Try.func44, Try.ntmps44
  go_wp2_with (go_at_call 54; refine (indexByte_any _ _ z HZ.out).mono ?_; rintro e w' ⟨rfl, rfl⟩)
  go_ret
  exact ⟨ret_bool (by rw [← HQ.out, HE.out]; simp), rfl⟩
def kindU (n : Nod) (a b z : Bool) : Bool :=
 if n.kind = 1 then !a && !b
 else if n.kind = 2 then decide ((n.data.length : Int) ≤ 4096) && !b
 else if n.kind = 3 then !a && txt n.target.toList 200
 else if n.kind = 4 then !a && !b && z && decide ((n.xs.length : Int) = 0)
 else false
set_option maxRecDepth 100000 in
set_option maxHeartbeats 1000000 in
theorem ukind_any (v : Nv) (n : Nod) (w : World) (h : Rep w v n) (a b z : Bool) (ha : decide (0 < n.data.length) = a) (hb : (!n.target.toList.isEmpty) = b) (hz : decide (n.mode = 0 ∧ n.uid = 0 ∧ n.gid = 0) = z) :
  Calls Try.prog 39 #[.agg v.cells] w fun e w' => e = .returned (.bool (kindU n a b z)) ∧ Below w.heap.size w w' := by
 obtain ⟨Q, hQ⟩ : ∃ Q, kindU n a b z = Q := ⟨_, rfl⟩
 have HQ := hide hQ
 rw [hQ]
 unfold kindU at HQ
 rw [h.kind, h.data.1, h.tg, h.xs.1] at HQ
 rw [h.data.1] at ha
 rw [h.tg] at hb
 rw [h.mode, h.uid, h.gid] at hz
 clear h hQ
 obtain ⟨na, nn, nc, ino, kind, mode, uid, gid, da, dn, dc, tg, xa, xn, xc, op⟩ := v
 simp only at ha hb hz HQ
 have bel : Hid (∀ o, Below w.heap.size w (w.alloc o)) := fun o => (Below.refl _ _).alloc (Nat.le_refl _) _
 unfold Nv.cells
 simp only
 have hb' : tg.toList.isEmpty = !b := by rw [← hb]; simp
 clear hb
 have hA : ∀ W : World, (binOp .eql 24 (.agg #[.int .i64 mode, .int .i64 uid, .int .i64 gid]) (.agg #[.int .i64 0, .int .i64 0, .int .i64 0])).run Try.prog W = .ok (.bool z) W := fun W => by rw [attrEq, hz]
 clear hz
 have hx1 : decide ((xn : Int) = 0) = decide (xn = 0) := by rw [Bool.eq_iff_iff]; simp
 have hd1 : decide ((dn : Int) ≤ 4096) = decide (dn ≤ 4096) := by rw [Bool.eq_iff_iff]; simp; omega
 rw [hx1, hd1] at HQ
 clear hx1 hd1
 have HT := hide (utarget_any tg)
 by_cases k1 : kind = 1
 ·subst k1
  clear hA HT
  cases a <;> cases b
  all_goals (
   go_enter Try.func39, Try.ntmps39
   go_wp2_with fail
   go_quiet (fail)
   go_wp2
   go_ret
   exact ⟨ret_bool (by rw [← HQ.out]; rfl), below_drewN (bel.out _) _⟩)
 by_cases k2 : kind = 2
 ·subst k2
  clear hA HT k1
  obtain ⟨e, he⟩ : ∃ e, decide (dn ≤ 4096) = e := ⟨_, rfl⟩
  rw [he] at HQ
  have he2 : decide ((dn : Int) ≤ 4096) = e := by rw [← he, Bool.eq_iff_iff]; simp; omega
  cases a <;> cases b <;> cases e
  all_goals (
   go_enter Try.func39, Try.ntmps39
   go_wp2_with fail
   go_quiet (fail)
   go_wp2
   go_ret
   exact ⟨ret_bool (by rw [← HQ.out]; rfl), below_drewN (bel.out _) _⟩)
 by_cases k3 : kind = 3
 ·subst k3
  clear hA k1 k2
  cases a
  all_goals (
   go_enter Try.func39, Try.ntmps39
   go_wp2_with fail
   go_quiet (fail)
   go_wp2_with (go_at_call 44; refine (HT.out _ _ rfl).mono ?_; rintro e w2 ⟨rfl, rfl⟩)
   go_ret
   exact ⟨ret_bool (by rw [← HQ.out]; rfl), below_drewN (bel.out _) _⟩)
 by_cases k4 : kind = 4
 ·subst k4
  clear HT k1 k2 k3
  obtain ⟨e, he⟩ : ∃ e, decide (xn = 0) = e := ⟨_, rfl⟩
  rw [he] at HQ
  have he2 : ((xn : Int) == 0) = e := by rw [← he, Bool.eq_iff_iff]; simp
  cases a <;> cases b <;> cases z <;> cases e
  all_goals (
   go_enter Try.func39, Try.ntmps39
   go_wp2_with fail
   go_quiet (fail)
   go_wp2
   go_ret
   exact ⟨ret_bool (by rw [← HQ.out]; rfl), below_drewN (bel.out _) _⟩)
 ·have j1 : (kind == 1) = false := by simpa using k1
  have j2 : (kind == 2) = false := by simpa using k2
  have j3 : (kind == 3) = false := by simpa using k3
  have j4 : (kind == 4) = false := by simpa using k4
  have HK := hide (And.intro k1 (And.intro k2 (And.intro k3 k4)))
  clear hA HT k1 k2 k3 k4
  go_enter Try.func39, Try.ntmps39
  go_wp2_with fail
  go_quiet (fail)
  go_wp2
  go_ret
  exact ⟨ret_bool (by rw [← HQ.out, if_neg HK.out.1, if_neg HK.out.2.1, if_neg HK.out.2.2.1, if_neg HK.out.2.2.2]), below_drewN (bel.out _) _⟩
theorem mayU_eq (n : Nod) : mayU n = ((upB n.mode 511 && upB n.uid 65535 && upB n.gid 65535) && xsOk n.xs && kindU n (decide (0 < n.data.length)) (!n.target.toList.isEmpty) (decide (n.mode = 0 ∧ n.uid = 0 ∧ n.gid = 0))) := by
 unfold mayU kindU
 by_cases k4 : n.kind = 4
 ·rw [if_pos k4, if_neg (by omega), if_neg (by omega), if_neg (by omega), if_pos k4, Bool.eq_iff_iff]
  simp only [decide_eq_true_eq, Bool.and_eq_true, Bool.not_eq_true', decide_eq_false_iff_not, Bool.not_eq_false', List.isEmpty_iff, upB]
  constructor
  ·rintro ⟨⟨h1, h2, h3⟩, h4, h5, h6⟩
   have hx : n.xs = [] := List.eq_nil_of_length_eq_zero h6
   exact ⟨⟨⟨⟨⟨by omega, by omega⟩, by omega, by omega⟩, by omega, by omega⟩, by rw [hx]; rfl⟩, ⟨⟨by omega, h5⟩, h1, h2, h3⟩, by omega⟩
  ·rintro ⟨_, ⟨⟨h4, h5⟩, h1⟩, h6⟩
   exact ⟨h1, by omega, h5, by omega⟩
 ·rw [if_neg k4]
  unfold may
  rw [attrB, Bool.eq_iff_iff]
  show (kdOk n && _ && xsOk n.xs && !false) = true ↔ _
  unfold kdOk
  by_cases k1 : n.kind = 1
  ·rw [if_pos k1, if_pos k1]
   simp only [Bool.and_eq_true, decide_eq_true_eq, Bool.not_eq_true', decide_eq_false_iff_not, Bool.not_eq_false', Bool.not_false, and_true]
   constructor
   ·rintro ⟨⟨⟨h1, h2⟩, h3⟩, h4⟩; exact ⟨⟨h3, h4⟩, by omega, h2⟩
   ·rintro ⟨⟨h3, h4⟩, h1, h2⟩; exact ⟨⟨⟨by omega, h2⟩, h3⟩, h4⟩
  ·rw [if_neg k1, if_neg k1]
   by_cases k2 : n.kind = 2
   ·rw [if_pos k2, if_pos k2]
    simp only [Bool.and_eq_true, decide_eq_true_eq, Bool.not_eq_true', Bool.not_eq_false', Bool.not_false, and_true]
    constructor
    ·rintro ⟨⟨⟨h1, h2⟩, h3⟩, h4⟩; exact ⟨⟨h3, h4⟩, by omega, h2⟩
    ·rintro ⟨⟨h3, h4⟩, h1, h2⟩; exact ⟨⟨⟨by omega, h2⟩, h3⟩, h4⟩
   ·rw [if_neg k2, if_neg k2]
    by_cases k3 : n.kind = 3
    ·rw [if_pos k3, if_pos k3]
     simp only [Bool.and_eq_true, decide_eq_true_eq, Bool.not_eq_true', decide_eq_false_iff_not, Bool.not_false, and_true]
     constructor
     ·rintro ⟨⟨⟨h1, h2⟩, h3⟩, h4⟩; exact ⟨⟨h3, h4⟩, by omega, h2⟩
     ·rintro ⟨⟨h3, h4⟩, h1, h2⟩; exact ⟨⟨⟨by omega, h2⟩, h3⟩, h4⟩
    ·rw [if_neg k3, if_neg k3, if_neg k4]
     simp
set_option maxRecDepth 100000 in
theorem umay_any (v : Nv) (n : Nod) (w : World) (h : Rep w v n) :
  Calls Try.prog 24 #[.agg v.cells] w fun e w' => e = .returned (.bool (mayU n)) ∧ Below w.heap.size w w' := by
 obtain ⟨b, hb⟩ : ∃ q, (upB v.mode 511 && upB v.uid 65535 && upB v.gid 65535) = q := ⟨_, rfl⟩
 obtain ⟨c, hc⟩ : ∃ q, xsOk n.xs = q := ⟨_, rfl⟩
 obtain ⟨a, ha⟩ : ∃ q, kindU n (decide (0 < n.data.length)) (!n.target.toList.isEmpty) (decide (n.mode = 0 ∧ n.uid = 0 ∧ n.gid = 0)) = q := ⟨_, rfl⟩
 have HE : Hid (mayU n = (b && c && a)) := by
  show _ = _
  rw [mayU_eq, ha, h.mode, h.uid, h.gid, hb, hc]
 have HA := hide ha
 have HB := hide hb
 have HC := hide hc
 have HR := hide h
 have x1 := h.xc
 have x2 := h.xcm
 have x3 := h.xnil
 have bel : Hid (∀ o, Below w.heap.size w (w.alloc o)) := fun o => (Below.refl _ _).alloc (Nat.le_refl _) _
 clear ha hb hc h
 have HBX := hide (boxed w v)
 unfold Nv.cells
 cases b with
 | false =>
  go_enter Try.func24, Try.ntmps24
  go_wp2_with (go_at_call 37; refine (uattr_any _ _ _ _ false HB.out).mono ?_; rintro e w1 ⟨rfl, hb1⟩)
  go_ret
  exact ⟨ret_bool (by rw [HE.out]; rfl), (bel.out _).trans (hb1.mono (by simp))⟩
 | true =>
  go_enter Try.func24, Try.ntmps24
  go_wp2_with (go_at_call 37; refine (uattr_any _ _ _ _ true HB.out).mono ?_)
  rintro e w1 ⟨rfl, hb1⟩
  have B1 := hide (HBX.out.below hb1)
  have e1 := hide ((bel.out _).trans (hb1.mono (by simp)))
  have d8 := B1.out.c8
  clear hb1
  cases c with
  | false =>
   go_wp2_with (go_at_call 38; refine (MayXattrs_any _ _ _ n.xs _ (HR.out.below e1.out).xs x1 x2 x3 false HC.out).mono ?_; rintro e w2 ⟨rfl, hb2⟩)
   go_ret
   exact ⟨ret_bool (by rw [HE.out]; rfl), e1.out.trans (hb2.mono e1.out.size)⟩
  | true =>
   go_wp2_with (go_at_call 38; refine (MayXattrs_any _ _ _ n.xs _ (HR.out.below e1.out).xs x1 x2 x3 true HC.out).mono ?_)
   rintro e w2 ⟨rfl, hb2⟩
   have B2 := hide (B1.out.below hb2)
   have e2 := hide (e1.out.trans (hb2.mono e1.out.size))
   obtain ⟨_, q0, q1, q2, q3, q4, q5, q6, q7, q8, q9⟩ := B2.out
   clear hb2 d8
   go_wp2_with fail
   refine (ukind_any v n _ (HR.out.below e2.out) _ _ _ rfl rfl rfl).mono ?_
   rintro e w3 ⟨rfl, hb3⟩
   rw [HA.out]
   have HF := hide (e2.out.trans (hb3.mono e2.out.size))
   clear hb3
   go_wp2
   go_ret
   exact ⟨ret_bool (by rw [HE.out]; rfl), HF.out⟩
end Upr
end Go.Proofs.Ytdobojnokgkbpaa
namespace Go.Proofs.Ytdobojnokgkbpaa
open Go.RowKit Go.Maps
open Nam Tre Tab
open Lz (g)
namespace Upr
theorem uinfoNode : (Try.prog.info? 28).map (·.size) = some 10 := by kernel_rfl
theorem uload_nod {w : World} {b : Nat} {t : TypeId} {cs : Array Value} {fr : Nat × Nat} (h : w.heap[b]? = some (.cells cs t fr)) (hs : cs.size = 10) : (loadVar 28 ⟨b, 0, none⟩).run Try.prog w = .ok (.agg cs) w :=
 run_loadVar_row w b t 28 cs fr _ h Try.underlying28 rfl (by rw [hs]; exact uinfoNode)
def kcs (n : Nod) (v : Pv) : Array Value :=
 #[.slice none 0 0, .int .i64 0, .int .i64 n.kind, .int .i64 n.mode, .int .i64 n.uid, .int .i64 n.gid, .slice v.da v.dn v.dc, .string n.target, .slice v.xa v.xn v.xc, .bool false]
structure KP (w w' : World) (n : Nod) (v : Pv) : Prop where
 bel : Below w.heap.size w w'
 data : Bs w' v.da v.dn n.data
 dcol : ∀ a, v.da = some a → 0 < v.dn → newc w.heap.size w'.heap.size a.block = .dat
 dc : v.dn ≤ v.dc
 dcm : v.dc ≤ 9223372036854775807
 dnil : v.da = none → v.dc = 0
 xs : XsC (newc w.heap.size w'.heap.size) w' v.xa v.xn n.xs
 xc : v.xn ≤ v.xc
 xcm : v.xc ≤ 9223372036854775807
 xnil : v.xa = none → v.xc = 0
theorem newc_up {lo lo' hi hi' k : Nat} (h : newc lo hi k = .dat) (h1 : lo' ≤ lo) (h2 : hi ≤ hi') : newc lo' hi' k = .dat := by
 obtain ⟨a, b⟩ := newc_dat.1 h
 exact newc_dat.2 ⟨by omega, by omega⟩
theorem KP.of {w w1 w2 w3 W : World} {n : Nod} {ao xo : Option Addr} {dn dc xn xc : Nat} (b1 : Below w.heap.size w w1) (hd : New w1 w2 ao dn dc n.data) (b2 : Below w2.heap.size w2 w3) (hx : NewX w3 W xo xn xc n.xs) : KP w W n ⟨ao, dn, dc, xo, xn, xc⟩ := by
 have hd' := hd.on (b2.trans (hx.bel.mono b2.size))
 have s12 := hd.bel.size
 have s23 := b2.size
 have s3 := hx.bel.size
 have s01 := b1.size
 refine ⟨b1.trans (hd'.bel.mono s01), hd'.bs, fun a ha h0 => ?_, hd.cap, hd.max, hd.nil, hx.xs.col (fun k hk => newc_up hk (by omega) (Nat.le_refl _)), hx.cap, hx.max, hx.nil⟩
 refine newc_dat.2 ⟨Nat.le_trans s01 (hd.own a ha).1, ?_⟩
 obtain ⟨_, _, cur, t, hc⟩ := hd'.own a ha
 exact heap_lt hc
theorem setRow_other {w : World} {k i : Nat} (h : i ≠ k) (cs : Array Value) : (w.setRow k cs).heap[i]? = w.heap[i]? := by
 simp [World.setRow, Array.getElem?_modify, Ne.symm h]
theorem KP.row {w w1 w3 : World} {n : Nod} {v : Pv} (h : KP w1 w3 n v) (hb : Below w.heap.size w w1) {k : Nat} (hk : k < w1.heap.size) (hk' : w.heap.size ≤ k) (cs : Array Value) : KP w (w3.setRow k cs) n v := by
 have f : Fr (fun i => i = k) w3 (w3.setRow k cs) := ⟨rfl, rfl, rfl, by simp [World.setRow], fun i hi hn => setRow_other hn cs⟩
 have no : ∀ i, newc w1.heap.size w3.heap.size i = .dat → ¬ i = k := fun i hi e => by have := (newc_dat.1 hi).1; omega
 have up : ∀ i, newc w1.heap.size w3.heap.size i = .dat → newc w.heap.size (w3.setRow k cs).heap.size i = .dat := fun i hi => newc_up hi hb.size f.size
 exact ⟨below_setRow (hb.trans (h.bel.mono hb.size)) hk' cs, h.data.fr f (fun a ha h0 => no _ (h.dcol a ha h0)), fun a ha h0 => up _ (h.dcol a ha h0), h.dc, h.dcm, h.dnil, (h.xs.fr f no).col up, h.xc, h.xcm, h.xnil⟩
set_option maxRecDepth 100000 in
set_option maxHeartbeats 1000000 in
theorem ukept_any (v : Nv) (n : Nod) (w : World) (h : Rep w v n) (hs : n.data.length ≤ 1000000 ∧ n.xs.length ≤ 1000000 ∧ ∀ x ∈ n.xs, x.2.length ≤ 1000000) :
  Calls Try.prog 35 #[.agg v.cells] w fun e w' => ∃ pv, e = .returned (.agg (kcs n pv)) ∧ KP w w' n pv := by
 obtain ⟨hs1, hs2, hs3⟩ := hs
 rw [h.data.1] at hs1
 rw [h.xs.1] at hs2
 obtain ⟨Vc, hVc⟩ : ∃ Vc, Vc = v.cells := ⟨_, rfl⟩
 rw [← hVc]
 obtain ⟨w1, hw1⟩ : ∃ w1, w1 = (w.alloc (.cells Vc 28)).alloc (.cells #[.slice none 0 0, .int .i64 0, .int .i64 0, .int .i64 0, .int .i64 0, .int .i64 0, .slice none 0 0, .string ⟨#[]⟩, .slice none 0 0, .bool false] 28) := ⟨_, rfl⟩
 have b1 : Below w.heap.size w w1 := by rw [hw1]; exact ((Below.refl _ _).alloc (Nat.le_refl _) _).alloc (by simp) _
 have hs1 : w1.heap.size = w.heap.size + 2 := by rw [hw1]; simp
 have hbx : w1.heap[w.heap.size]? = some (.cells Vc 28 (0, 0)) := by rw [hw1, Below.heap_alloc _ _ _ (by simp)]; exact heap_new rfl
 have hrx : w1.heap[w.heap.size + 1]? = some (.cells #[.slice none 0 0, .int .i64 0, .int .i64 0, .int .i64 0, .int .i64 0, .int .i64 0, .slice none 0 0, .string ⟨#[]⟩, .slice none 0 0, .bool false] 28 (0, 0)) := by rw [hw1]; exact heap_new (by simp)
 have HBx : Hid (∀ wX : World, wX.heap[w.heap.size]? = some (.cells Vc 28 (0, 0)) → wX.cell? ⟨w.heap.size, 2, none⟩ = some (.int .i64 v.kind) ∧ wX.cell? ⟨w.heap.size, 3, none⟩ = some (.int .i64 v.mode) ∧ wX.cell? ⟨w.heap.size, 4, none⟩ = some (.int .i64 v.uid) ∧ wX.cell? ⟨w.heap.size, 5, none⟩ = some (.int .i64 v.gid) ∧ wX.cell? ⟨w.heap.size, 6, none⟩ = some (.slice v.da v.dn v.dc) ∧ wX.cell? ⟨w.heap.size, 7, none⟩ = some (.string v.tg) ∧ wX.cell? ⟨w.heap.size, 8, none⟩ = some (.slice v.xa v.xn v.xc)) := fun wX hX => by
  rw [hVc] at hX
  simp [World.cell?, hX, Nv.cells]
 have HRx : Hid (∀ wX, Below w1.heap.size w1 wX → wX.heap[w.heap.size + 1]? = some (.cells #[.slice none 0 0, .int .i64 0, .int .i64 0, .int .i64 0, .int .i64 0, .int .i64 0, .slice none 0 0, .string ⟨#[]⟩, .slice none 0 0, .bool false] 28 (0, 0))) := fun wX hX => (hX.block _ (heap_lt hrx)).trans hrx
 have HR := hide (h.below b1)
 have HB1 := hide b1
 have HK := hide (And.intro h.kind (And.intro h.mode (And.intro h.uid (And.intro h.gid h.tg))))
 have HCd : Hid (∀ W, Below w1.heap.size w1 W → Calls Try.prog 33 #[.slice v.da v.dn v.dc] W fun r w' => ∃ ao' c', r = .returned (.slice ao' v.dn c') ∧ New W w' ao' v.dn c' n.data) := fun W hW => CloneNew_any _ _ _ _ W (HR.out.below hW).data h.dc h.dnil (by omega)
 have HCx : Hid (∀ W, Below w1.heap.size w1 W → Calls Try.prog 26 #[.slice v.xa v.xn v.xc] W fun e w' => ∃ ao' c', e = .returned (.slice ao' v.xn c') ∧ NewX W w' ao' v.xn c' n.xs) := fun W hW => ucopied_any _ _ _ _ W (HR.out.below hW).xs h.xc h.xcm h.xnil hs2 hs3
 have HB0 : Hid (∀ wX, Below w1.heap.size w1 wX → Below w.heap.size w wX ∧ wX.heap[w.heap.size]? = some (.cells Vc 28 (0, 0))) := fun wX hX => ⟨b1.trans (hX.mono b1.size), (hX.block _ (heap_lt hbx)).trans hbx⟩
 have HS1 := hide hs1
 clear h hbx hrx b1 hs1 hVc
 go_enter Try.func35, Try.ntmps35
 go_wp2_with fail
 rw [← hw1]
 clear hw1
 refine wp_region_held_drew (S := fun wX => Below w.heap.size w wX ∧ wX.heap[w.heap.size]? = some (.cells Vc 28 (0, 0))) (by kernel_rfl) (HB0.out _ (below_drewN (Below.refl _ _) 1)) (fun hHeld => ?_)
 refine wpAnyH_take (i := 0) (oi := ⟨some 3, _, _, _, _, _⟩) (v := ?_) rfl (by kernel_rfl) (by kernel_rfl) (by kernel_rfl) (fun _ _ _ h => h) (Or.inl ⟨by rfl, ?_⟩) (by assumption) ?_
 rotate_left
 ·(intro wS hSw; go_simp; try with_reducible rfl)
 try simp only [Act.put, List.setIfInBounds_toArray, List.set_cons_zero, List.set_cons_succ]
 refine wpAnyH_take (i := 1) (oi := ⟨some 4, _, _, _, _, _⟩) (v := ?_) rfl (by kernel_rfl) (by kernel_rfl) (by kernel_rfl) (fun _ _ _ h => h) (Or.inl ⟨by rfl, ?_⟩) (by assumption) ?_
 rotate_left
 ·(intro wS hSw; obtain ⟨q2, q3, q4, q5, q6, q7, q8⟩ := HBx.out wS hSw.2; go_simp; try with_reducible rfl)
 try simp only [Act.put, List.setIfInBounds_toArray, List.set_cons_zero, List.set_cons_succ]
 refine wpAnyH_take (i := 2) (oi := ⟨some 5, _, _, _, _, _⟩) (v := ?_) rfl (by kernel_rfl) (by kernel_rfl) (by kernel_rfl) (fun _ _ _ h => h) (Or.inl ⟨by rfl, ?_⟩) (by assumption) ?_
 rotate_left
 ·(intro wS hSw; go_simp; try with_reducible rfl)
 try simp only [Act.put, List.setIfInBounds_toArray, List.set_cons_zero, List.set_cons_succ]
 refine wpAnyH_take (i := 3) (oi := ⟨some 6, _, _, _, _, _⟩) (v := ?_) rfl (by kernel_rfl) (by kernel_rfl) (by kernel_rfl) (fun _ _ _ h => h) (Or.inl ⟨by rfl, ?_⟩) (by assumption) ?_
 rotate_left
 ·(intro wS hSw; obtain ⟨q2, q3, q4, q5, q6, q7, q8⟩ := HBx.out wS hSw.2; go_simp; try with_reducible rfl)
 try simp only [Act.put, List.setIfInBounds_toArray, List.set_cons_zero, List.set_cons_succ]
 refine wpAnyH_take (i := 4) (oi := ⟨some 7, _, _, _, _, _⟩) (v := ?_) rfl (by kernel_rfl) (by kernel_rfl) (by kernel_rfl) (fun _ _ _ h => h) (Or.inl ⟨by rfl, ?_⟩) (by assumption) ?_
 rotate_left
 ·(intro wS hSw; go_simp; try with_reducible rfl)
 try simp only [Act.put, List.setIfInBounds_toArray, List.set_cons_zero, List.set_cons_succ]
 refine wpAnyH_take (i := 5) (oi := ⟨some 8, _, _, _, _, _⟩) (v := ?_) rfl (by kernel_rfl) (by kernel_rfl) (by kernel_rfl) (fun _ _ _ h => h) (Or.inl ⟨by rfl, ?_⟩) (by assumption) ?_
 rotate_left
 ·(intro wS hSw; obtain ⟨q2, q3, q4, q5, q6, q7, q8⟩ := HBx.out wS hSw.2; go_simp; try with_reducible rfl)
 try simp only [Act.put, List.setIfInBounds_toArray, List.set_cons_zero, List.set_cons_succ]
 refine wpAnyH_take (i := 7) (oi := ⟨some 10, _, _, _, _, _⟩) (v := ?_) rfl (by kernel_rfl) (by kernel_rfl) (by kernel_rfl) (fun _ _ _ h => h) (Or.inl ⟨by rfl, ?_⟩) (by assumption) ?_
 rotate_left
 ·(intro wS hSw; go_simp; try with_reducible rfl)
 try simp only [Act.put, List.setIfInBounds_toArray, List.set_cons_zero, List.set_cons_succ]
 refine wpAnyH_take (i := 8) (oi := ⟨some 11, _, _, _, _, _⟩) (v := ?_) rfl (by kernel_rfl) (by kernel_rfl) (by kernel_rfl) (fun _ _ _ h => h) (Or.inl ⟨by rfl, ?_⟩) (by assumption) ?_
 rotate_left
 ·(intro wS hSw; obtain ⟨q2, q3, q4, q5, q6, q7, q8⟩ := HBx.out wS hSw.2; go_simp; try with_reducible rfl)
 try simp only [Act.put, List.setIfInBounds_toArray, List.set_cons_zero, List.set_cons_succ]
 refine wpAnyH_take (i := 9) (oi := ⟨some 12, _, _, _, _, _⟩) (v := ?_) rfl (by kernel_rfl) (by kernel_rfl) (by kernel_rfl) (fun _ _ _ h => h) (Or.inl ⟨by rfl, ?_⟩) (by assumption) ?_
 rotate_left
 ·(intro wS hSw; go_simp; try with_reducible rfl)
 try simp only [Act.put, List.setIfInBounds_toArray, List.set_cons_zero, List.set_cons_succ]
 refine wpAnyH_take (i := 10) (oi := ⟨some 13, _, _, _, _, _⟩) (v := ?_) rfl (by kernel_rfl) (by kernel_rfl) (by kernel_rfl) (fun _ _ _ h => h) (Or.inl ⟨by rfl, ?_⟩) (by assumption) ?_
 rotate_left
 ·(intro wS hSw; obtain ⟨q2, q3, q4, q5, q6, q7, q8⟩ := HBx.out wS hSw.2; go_simp; try with_reducible rfl)
 try simp only [Act.put, List.setIfInBounds_toArray, List.set_cons_zero, List.set_cons_succ]
 refine wpAnyH_ready (rs := [6]) (by kernel_rfl) (by simp) ?_
 refine AllReadyH.cons (o := ⟨some 9, _, _, _, _, _⟩) rfl (fun K hK => ?_) AllReadyH.nil
 go_simp
 refine (HCd.out _ (below_drewN (Below.refl _ _) 1)).mono ?_
 rintro r w2 ⟨ao, c2, rfl, hN⟩
 have HB2 : Hid (Below w1.heap.size w1 w2) := ⟨hN.bel.os, hN.bel.tape, hN.bel.output, hN.bel.size, hN.bel.block⟩
 have HN := hide (hN.from (w0 := w1) (below_drewN (Below.refl _ _) 1))
 refine hK.out _ _ (HB0.out _ HB2.out) (fun hHeld => ?_)
 clear hN
 clear hK K
 try simp only [Act.put, List.setIfInBounds_toArray, List.set_cons_zero, List.set_cons_succ]
 refine wpAnyH_ready (rs := [11]) (by kernel_rfl) (by simp) ?_
 refine AllReadyH.cons (o := ⟨some 14, _, _, _, _, _⟩) rfl (fun K hK => ?_) AllReadyH.nil
 go_simp
 refine (HCx.out _ HB2.out).mono ?_
 rintro r w3 ⟨xo, c3, rfl, hX⟩
 have HX := hide hX
 have HB3 := hide (HB2.out.trans (hX.bel.mono HB2.out.size))
 refine hK.out _ _ (HB0.out _ HB3.out) (fun hHeld => ?_)
 clear hX
 clear hK K
 try simp only [Act.put, List.setIfInBounds_toArray, List.set_cons_zero, List.set_cons_succ]
 refine wpAnyH_take (i := 12) (oi := ⟨some 15, _, _, _, _, _⟩) (v := ?_) rfl (by kernel_rfl) (by kernel_rfl) (by kernel_rfl) (fun _ _ _ h => h) (Or.inl ⟨by rfl, ?_⟩) (by assumption) ?_
 rotate_left
 ·(intro wS hSw; go_simp; try with_reducible rfl)
 try simp only [Act.put, List.setIfInBounds_toArray, List.set_cons_zero, List.set_cons_succ]
 refine wpAnyH_switch (S' := fun wX => wX = w3.setRow (w.heap.size + 1) #[.slice none 0 0, .int .i64 0, .int .i64 v.kind, .int .i64 v.mode, .int .i64 v.uid, .int .i64 v.gid, .slice ao v.dn c2, .string v.tg, .slice xo v.xn c3, .bool false]) (fun wX h => by rw [h]; exact ⟨below_setRow (HB0.out _ HB3.out).1 (by omega) _, (setRow_other (by omega) _).trans (HB0.out _ HB3.out).2⟩) _ _ _ _ ?_
 refine wpAnyH_ready (rs := [13]) (by kernel_rfl) (by simp) ?_
 refine AllReadyH.cons (o := ⟨none, _, _, _, _, _⟩) rfl (fun K hK => ?_) AllReadyH.nil
 refine step_store_row (by rfl) 28 (.tmp 2) (.tmp 15) (by rfl) (w.heap.size + 1) #[.slice none 0 0, .int .i64 0, .int .i64 v.kind, .int .i64 v.mode, .int .i64 v.uid, .int .i64 v.gid, .slice ao v.dn c2, .string v.tg, .slice xo v.xn c3, .bool false] (by rfl) (by rfl) 28 _ (HRx.out _ HB3.out) uinfoNode rfl (by simp [Value.oneCell']) ?_
 refine hK.out _ _ rfl (fun hHeld => ?_)
 clear hK K
 simp only [Act.put]
 refine wpAnyH_done (by kernel_rfl) ?_ _
 have HF := hide ((KP.of (Below.refl _ _) HN.out (Below.refl _ _) HX.out).row HB1.out (show w.heap.size + 1 < w1.heap.size by have := HS1.out; omega) (by omega) #[.slice none 0 0, .int .i64 0, .int .i64 v.kind, .int .i64 v.mode, .int .i64 v.uid, .int .i64 v.gid, .slice ao v.dn c2, .string v.tg, .slice xo v.xn c3, .bool false])
 have HL := hide (uload_nod (usetRow_heap (HRx.out _ HB3.out) #[.slice none 0 0, .int .i64 0, .int .i64 v.kind, .int .i64 v.mode, .int .i64 v.uid, .int .i64 v.gid, .slice ao v.dn c2, .string v.tg, .slice xo v.xn c3, .bool false]) rfl)
 clear hHeld
 go_wp2
 refine bodyPost_ret (v := .agg #[.slice none 0 0, .int .i64 0, .int .i64 v.kind, .int .i64 v.mode, .int .i64 v.uid, .int .i64 v.gid, .slice ao v.dn c2, .string v.tg, .slice xo v.xn c3, .bool false]) ?_ rfl ⟨⟨ao, v.dn, c2, xo, v.xn, c3⟩, ?_, HF.out⟩
 ·exact results_cr1 (p := 2) rfl _ _ (w.heap.size + 1) _ rfl HL.out
 ·unfold kcs
  rw [HK.out.1, HK.out.2.1, HK.out.2.2.1, HK.out.2.2.2.1, HK.out.2.2.2.2]
end Upr
end Go.Proofs.Ytdobojnokgkbpaa
namespace Go.Proofs.Ytdobojnokgkbpaa
open Go.RowKit Go.Maps
open Nam Tre Tab
open Lz (g)
namespace Upr
def asOf (n : Nod) : Nod := { n with opq := false }
structure Made (w w' : World) (b : Nat) (n : Nod) (par : Int) (pv : Pv) : Prop where
 lo : w.heap.size ≤ b
 hi : b < w'.heap.size
 bel : Below w.heap.size w w'
 nb : NB (newc w.heap.size b) w' b (asOf n) pv 1 (.map (if n.kind = 1 then some (b + 1) else none)) (if n.kind = 1 then par else 0)
 mp : n.kind = 1 → MpS w' (b + 1) 0 (fun _ => none)
theorem KP.nb {w w2 W : World} {n : Nod} {pv : Pv} {l pr : Int} {em : Value} (h : KP w w2 n pv) (hb : Below w2.heap.size w2 W) (hbox : W.heap[w2.heap.size]? = some (.cells (ncs (asOf n) pv l em pr) 75 (0, 0))) : NB (newc w.heap.size w2.heap.size) W w2.heap.size (asOf n) pv l em pr := by
 have f : Fr (fun k => False) w2 W := Fr.of_below hb
 exact ⟨hbox, h.data.below hb, h.dcol, h.dc, h.dcm, h.dnil, h.xs.fr f (fun _ _ h => h), h.xc, h.xcm, h.xnil⟩
theorem NB.newc {lo lo' hi hi' : Nat} {w : World} {b : Nat} {n : Nod} {v : Pv} {lk : Int} {em : Value} {pr : Int} (h : NB (newc lo hi) w b n v lk em pr) (h1 : lo' ≤ lo) (h2 : hi ≤ hi') : NB (Upr.newc lo' hi') w b n v lk em pr := h.col (fun k hk => newc_up hk h1 h2)
set_option maxRecDepth 100000 in
set_option maxHeartbeats 1000000 in
theorem umade_any (v : Nv) (n : Nod) (par : Int) (w : World) (h : Rep w v n) (hs : n.data.length ≤ 1000000 ∧ n.xs.length ≤ 1000000 ∧ ∀ x ∈ n.xs, x.2.length ≤ 1000000) :
  Calls Try.prog 21 #[.agg v.cells, .int .i64 par] w fun e w' => ∃ b pv, e = .returned (.pointer (some ⟨b, 0, none⟩)) ∧ Made w w' b n par pv := by
 have HK1 : Hid (∀ W, Below w.heap.size w W → Calls Try.prog 35 #[.agg v.cells] W fun e w' => ∃ pv, e = .returned (.agg (kcs n pv)) ∧ KP W w' n pv) := fun W hW => ukept_any v n W (h.below hW) hs
 have bel : Hid (∀ o, Below w.heap.size w (w.alloc o)) := fun o => (Below.refl _ _).alloc (Nat.le_refl _) _
 have hk := h.kind
 have HBX := hide (boxed w v)
 clear h hs
 unfold Nv.cells at HBX ⊢
 go_enter Try.func21, Try.ntmps21
 go_wp2_with fail
 refine (HK1.out _ (bel.out _)).mono ?_
 rintro e w2 ⟨pv, rfl, hP⟩
 have HB2 := hide ((bel.out (.cells v.cells 28)).trans (hP.bel.mono (by simp)))
 have k2 : ∀ o, (w2.alloc o).cell? ⟨w.heap.size, 2, none⟩ = some (.int .i64 v.kind) := fun o => ((HBX.out.below hP.bel).below (below_one w2 o)).c2
 have HP := hide hP
 have HLo : Hid (w.heap.size ≤ w2.heap.size) := HB2.out.size
 clear hP HK1 HBX
 unfold kcs
 by_cases h1 : n.kind = 1
 ·have k1 : (v.kind == 1) = true := by rw [← hk]; simpa using h1
  have k3 : ∀ o, (w2.alloc o).cell? ⟨w.heap.size, 2, none⟩ = some (.int .i64 1) := fun o => by rw [k2 o, ← hk, h1]
  clear k2
  have HH := hide h1
  have mkm : ∀ w' : World, (Instr.makeMap 73 none).run Try.prog w' = .ok (.map (some w'.heap.size)) (w'.alloc (.map #[] 0)) := fun w' => by simp [Instr.makeMap, Result.andThen]
  have HFin : Hid (∀ W, W = (w2.alloc (.cells (ncs (asOf n) pv 1 (.map (some (w2.heap.size + 1))) par) 75)).alloc (.map #[] 0) → Made w W w2.heap.size n par pv) := fun W hW => by
   have hb2 : Below w2.heap.size w2 W := by
    rw [hW]
    exact ((Below.refl _ w2).alloc (Nat.le_refl _) _).alloc (by simp) _
   have hsz : W.heap.size = w2.heap.size + 2 := by rw [hW]; simp
   have hbx : W.heap[w2.heap.size]? = some (.cells (ncs (asOf n) pv 1 (.map (some (w2.heap.size + 1))) par) 75 (0, 0)) := by
    rw [hW, Below.heap_alloc _ _ _ (by simp)]; exact heap_new rfl
   have hmp : W.heap[w2.heap.size + 1]? = some (.map #[] 0) := by
    rw [hW]
    exact heap_new (by simp)
   refine ⟨HLo.out, by omega, HB2.out.trans (hb2.mono HLo.out), ?_, fun _ => ?_⟩
   ·have := (HP.out.nb hb2 hbx).newc (lo' := w.heap.size) (hi' := w2.heap.size) (by simp) (Nat.le_refl _)
    rw [if_pos HH.out, if_pos HH.out]
    exact this
   ·have e := MpS.new (w2.alloc (.cells (ncs (asOf n) pv 1 (.map none) 0) 75))
    rw [World.size_alloc] at e
    exact e.same (hmp.trans (heap_new (by simp)).symm)
  unfold ncs asOf at HFin
  rw [HH.out] at HFin ⊢
  clear hk h1 k1
  go_wp2
  go_ret
  exact ⟨_, pv, rfl, HFin.out _ rfl⟩
 ·have k1 : (v.kind == 1) = false := by rw [← hk]; simpa using h1
  have HH := hide h1
  have HFin : Hid (∀ W, W = w2.alloc (.cells (ncs (asOf n) pv 1 (.map none) 0) 75) → Made w W w2.heap.size n par pv) := fun W hW => by
   have hb2 : Below w2.heap.size w2 W := by rw [hW]; exact below_one _ _
   have hbx : W.heap[w2.heap.size]? = some (.cells (ncs (asOf n) pv 1 (.map none) 0) 75 (0, 0)) := by rw [hW]; exact heap_new rfl
   refine ⟨HLo.out, heap_lt hbx, HB2.out.trans (hb2.mono HLo.out), ?_, fun e => absurd e HH.out⟩
   have := (HP.out.nb hb2 hbx).newc (lo' := w.heap.size) (hi' := w2.heap.size) (by simp) (Nat.le_refl _)
   rw [if_neg HH.out, if_neg HH.out]
   exact this
  unfold ncs asOf at HFin
  clear hk h1
  go_wp2
  go_ret
  exact ⟨_, pv, rfl, HFin.out _ rfl⟩
end Upr
end Go.Proofs.Ytdobojnokgkbpaa
namespace Go.Proofs.Ytdobojnokgkbpaa
open Go.RowKit Go.Maps
open Nam Tre Tab
open Lz (g)
namespace Upr
section
variable {p : Nat} {c : Nat → Cl} {q : Int × Int × Int} {u : Us} {lk pr : Int → Int} {m : Nat} {nb eb : Int → Nat}
def freE (u : Us) (d : Int) (s : ByteArray) : Int := if valid s.toList ≠ 0 then valid s.toList else if (en u d s).isSome = true then 21 else 0
theorem frs_fre {u : Us} {d : Int} {s : ByteArray} : frs u d s = if dirE u d ≠ 0 then dirE u d else freE u d s := by
 unfold frs freE; rfl
set_option maxRecDepth 100000 in
theorem ufree_any (d : Int) (s : ByteArray) (w : World) (h : UB w p c q u lk pr m nb eb) {n : Nod} (hn : nd u d = some n) (hk : n.kind = 1) (hs : s.size ≤ maxLen) :
  Calls Try.prog 36 #[.pointer (some ⟨nb d, 0, none⟩), .string s] w fun e w' => e = .returned (.int .i64 (freE u d s)) ∧ Below w.heap.size w w' := by
 have HV := hide (Valid_any s w)
 have HH := hide h
 by_cases hv : valid s.toList = 0
 ·have HQ : Hid (freE u d s = if (en u d s).isSome = true then 21 else 0) := by show _ = _; unfold freE; rw [if_neg (by rw [hv]; simp)]
  rw [hv] at HV
  have HL : Hid (∀ W, Below w.heap.size w W → W.cell? ⟨nb d, 11, none⟩ = some (.map (some (eb d))) ∧ (Instr.lookup 73 (.map (some (eb d))) (.string s) true).run Try.prog W = .ok (.tuple #[((enF u d s)).getD (.int .i64 0), .bool (en u d s).isSome]) W) := fun W hW => by
   have hb := HH.out.below hW
   obtain ⟨_, _, v, hv⟩ := hb.at hn
   have e1 := hv.e
   rw [if_pos hk] at e1
   have l1 := (hb.ents hn hk).look Try.underlying73 (zeroI _) hs
   refine ⟨e1, ?_⟩
   rw [l1]
   unfold enF
   cases en u d s <;> rfl
  clear h hv
  go_enter Try.func36, Try.ntmps36
  go_wp2_with fail
  refine HV.out.mono ?_
  rintro e w1 ⟨rfl, hb⟩
  obtain ⟨c1, l1⟩ := HL.out w1 hb
  have HB := hide hb
  clear hb HL
  generalize hq : (enF u d s).getD (.int .i64 0) = zz at *
  cases hx : (en u d s).isSome with
  | true =>
   rw [hx] at l1 HQ
   go_wp2
   go_ret
   exact ⟨by rw [HQ.out]; rfl, HB.out⟩
  | false =>
   rw [hx] at l1 HQ
   go_wp2
   go_ret
   exact ⟨by rw [HQ.out]; rfl, HB.out⟩
 ·have HQ : Hid (freE u d s = valid s.toList) := by show _ = _; unfold freE; rw [if_pos hv]
  have k0 : (valid s.toList == 0) = false := by simpa using hv
  rw [HQ.out]
  generalize valid s.toList = ee at *
  clear h hv
  go_enter Try.func36, Try.ntmps36
  go_wp2_with fail
  refine HV.out.mono ?_
  rintro e w1 ⟨rfl, hb⟩
  have HB := hide hb
  clear hb
  go_wp2
  go_ret
  exact ⟨rfl, HB.out⟩
set_option maxRecDepth 100000 in
theorem uplace_any (d : Int) (s : ByteArray) (w : World) (h : UB w p c q u lk pr m nb eb) (hr : (Lit.int .i64 d).wf = true) (hs : s.size ≤ maxLen) :
  Calls Try.prog 23 #[.pointer (some ⟨p, 0, none⟩), .int .i64 d, .string s] w fun e w' => e = .returned (.tuple #[.pointer (ptrD u nb d), .int .i64 (frs u d s)]) ∧ Below w.heap.size w w' := by
 have HD := hide (udir_any d w hr h)
 by_cases hd : dirE u d = 0
 ·obtain ⟨n, hn, hk⟩ := dirE_zero.1 hd
  have e0 : ptrD u nb d = some ⟨nb d, 0, none⟩ := by unfold ptrD; rw [if_pos hd]
  have HF := hide (ufree_any d s w h hn hk hs)
  have e1 : frs u d s = freE u d s := by rw [frs_fre, if_neg (by rw [hd]; simp)]
  rw [e1, e0]
  rw [e0, hd] at HD
  generalize freE u d s = ee at *
  clear h hd hn hk e0 e1
  go_enter Try.func23, Try.ntmps23
  go_wp2_with (first
   | (go_at_call 28; refine HD.out.mono ?_; rintro e w2 ⟨rfl, rfl⟩)
   | (go_at_call 36; refine HF.out.mono ?_; rintro e w3 ⟨rfl, hb⟩))
  go_ret2
  exact ⟨rfl, hb⟩
 ·have e0 : ptrD u nb d = none := by unfold ptrD; rw [if_neg hd]
  have k0 : (dirE u d == 0) = false := by simpa using hd
  have e1 : frs u d s = dirE u d := by rw [frs_fre, if_pos hd]
  rw [e1, e0]
  rw [e0] at HD
  generalize dirE u d = ee at *
  have HB := hide (Below.refl w.heap.size w)
  clear h hd e0 e1
  go_enter Try.func23, Try.ntmps23
  go_wp2_with (first
   | (go_at_call 28; refine HD.out.mono ?_; rintro e w2 ⟨rfl, rfl⟩))
  go_ret2
  exact ⟨rfl, HB.out⟩
end
end Upr
end Go.Proofs.Ytdobojnokgkbpaa
namespace Go.Proofs.Ytdobojnokgkbpaa
open Go.RowKit Go.Maps
open Nam Tre Tab
open Lz (g)
namespace Upr
theorem trn_id (u : Us) (r : Int) : trn u r (fun n => n) = u := by
 unfold trn
 have : u.L.map (fun n => if n.ino = r then n else n) = u.L := by
  have e : (fun n : Nod => if n.ino = r then n else n) = id := by funext n; split <;> rfl
  rw [e, List.map_id]
 rw [this]
theorem NB.setC {c : Nat → Cl} {w : World} {b : Nat} {n n' : Nod} {v v' : Pv} {lk lk' : Int} {em em' : Value} {pr pr' : Int} (h : NB c w b n v lk em pr) (i : Nat) (z : Value) (e : (ncs n v lk em pr).setIfInBounds i z = ncs n' v' lk' em' pr') : (w.setCell ⟨b, i, none⟩ z).heap[b]? = some (.cells (ncs n' v' lk' em' pr') 75 (0, 0)) := by
 rw [heap_setCell_self h.box, e]
section
variable {w : World} {p : Nat} {c : Nat → Cl} {u : Us} {lk pr : Int → Int} {m : Nat} {nb eb : Int → Nat} {q : Int × Int × Int}
theorem UB.setL (h : UB w p c q u lk pr m nb eb) {r : Int} {n : Nod} (hn : nd u r = some n) (z : Int) :
  UB (w.setCell ⟨nb r, 10, none⟩ (.int .i64 z)) p c q u (fun x => if x = r then z else lk x) pr m nb eb ∧ Fr (fun k => c k = .nod r) w (w.setCell ⟨nb r, 10, none⟩ (.int .i64 z)) := by
 obtain ⟨n1, n2, v, hv⟩ := h.at hn
 have hc := h.cnr hn
 have hf : Fr (fun k => c k = .nod r) w (w.setCell ⟨nb r, 10, none⟩ (.int .i64 z)) := (Fr.refl _ _).set (p := ⟨nb r, 10, none⟩) _ (fun _ => hc)
 have nn : ∀ {k x}, c k = x → x ≠ .nod r → ¬ c k = .nod r := fun h1 h2 h3 => h2 (h1.symm.trans h3)
 have := h.node hn (fun n => n) rfl rfl (h.kd n n1) hf z (pr r) v
  ⟨hv.setC 10 _ rfl, hv.data.fr hf (fun a ha h0 => nn (hv.dcol a ha h0) (by intro e; cases e)), hv.dcol, hv.dc, hv.dcm, hv.dnil, hv.xs.fr hf (fun k hk => nn hk (by intro e; cases e)), hv.xc, hv.xcm, hv.xnil⟩
 rw [trn_id] at this
 refine ⟨?_, hf⟩
 have e : (fun x => if x = r then pr r else pr x) = pr := by funext x; by_cases e : x = r <;> simp [e]
 rw [e] at this
 exact this
end
theorem ln_fin {w : World} {p : Nat} {c : Nat → Cl} {q : Int × Int} {u : Us} {pr : Int → Int} {m : Nat} {nb eb : Int → Nat} (h : UB w p c (q.1, q.2, u.nx - 1) u (fun r => (lks u r : Int)) pr m nb eb) (hwf : Wf u) (hpar : ∀ e ∈ u.E, knd u e.ref = 1 → pr e.ref = e.dir) (hsm : Sm u)
  {d r : Int} {s : ByteArray} {n : Nod} (hn : nd u r = some n) (hf : frs u d s = 0) (hk : n.kind ≠ 1) (hs : s.size ≤ maxLen) :
  ∃ w2, (Instr.mapUpdate 73 (.map (some (eb d))) (.string s) (.int .i64 r)).run Try.prog w = .ok () w2 ∧ w2.cell? ⟨nb r, 10, none⟩ = some (.int .i64 (lks u r : Int)) ∧ w2.frozen? ⟨nb r, 10, none⟩ = false ∧
   Up (w2.setCell ⟨nb r, 10, none⟩ (.int .i64 ((lks u r : Int) + 1))) p c q (ln u d s r).2 ∧ Fr (fun k => c k ≠ .no) w (w2.setCell ⟨nb r, 10, none⟩ (.int .i64 ((lks u r : Int) + 1))) := by
 obtain ⟨⟨nD, hnD, hkD⟩, hvs, hen⟩ := frs_zero hf
 have hln : (ln u d s r).2 = { u with E := u.E ++ [⟨d, s, r⟩] } := by
  unfold ln
  rw [if_neg (by rw [hnD, hn]; simp), if_neg (by rw [hf]; simp), if_neg (by rw [knd_some hn]; exact hk)]
 obtain ⟨w2, r2, h2, f2⟩ := h.putE hnD hkD hen hs hsm.2.1 r
 have hn2 : nd { u with E := u.E ++ [⟨d, s, r⟩] } r = some n := hn
 obtain ⟨h3, f3⟩ := h2.setL hn2 ((lks u r : Int) + 1)
 obtain ⟨_, _, v, hv⟩ := h2.at hn2
 have r1 : r ≠ 1 := fun e => by
  obtain ⟨z, z1, z2, z3⟩ := hwf.root
  have := nd_mem hwf.ino z1
  rw [z2, ← e, hn] at this
  injection this with this
  rw [this] at hk; exact hk z3
 refine ⟨w2, r2, hv.l, hv.f 10, ?_, ?_⟩
 ·rw [hln]
  refine ⟨pr, m, nb, eb, h3.lks (fun x hx => ?_) (fun _ _ _ => rfl), by rw [← hln]; exact ln_wf hwf d s r (.inl r1), ?_⟩
  ·show (if x.ino = r then (lks u r : Int) + 1 else (lks u x.ino : Int)) = ((lks ⟨u.L, u.E ++ [⟨d, s, r⟩], u.nx⟩ x.ino : Nat) : Int)
   rw [lks_snoc]
   by_cases ex : x.ino = r
   ·rw [if_pos ex, if_pos ⟨by omega, ex⟩, ex]; simp
   ·rw [if_neg ex, if_neg (fun z => ex z.2)]
  ·intro e he hke
   rcases List.mem_append.1 he with q | q
   ·exact hpar e q hke
   ·rw [List.mem_singleton.1 q] at hke ⊢
    have : knd u r = 1 := hke
    rw [knd_some hn] at this
    exact absurd this hk
 ·exact (f2.mono (fun k _ hx => by rw [hx]; intro e; cases e)).trans f3 (fun k _ hx => by rw [hx]; intro e; cases e)
set_option maxRecDepth 100000 in
set_option maxHeartbeats 1000000 in
theorem uLink_any {p : Nat} {c : Nat → Cl} {q : Int × Int} {u : Us} (d : Int) (s : ByteArray) (r : Int) (w : World) (h : Up w p c q u) (hsm : Sm u) (hd : (Lit.int .i64 d).wf = true) (hr : (Lit.int .i64 r).wf = true) (hs : s.size ≤ maxLen) :
  Calls Try.prog 15 #[.pointer (some ⟨p, 0, none⟩), .int .i64 d, .string s, .int .i64 r] w fun e w' => e = .returned (.int .i64 (ln u d s r).1) ∧ Up w' p c q (ln u d s r).2 ∧ Fr (fun k => c k ≠ .no) w w' := by
 have HU := hide h
 obtain ⟨pr, m, nb, eb, hB, hwf, hpar⟩ := h
 have HPl := hide (uplace_any d s w hB hd hs)
 have c2 := hB.c2
 have hl := hB.look hr
 have HUB := hide hB
 have HWf := hide hwf
 have HPar := hide hpar
 have HSm := hide hsm
 have hE : lks u r ≤ 100001 := by
  unfold lks
  split
  ·omega
  ·have : cnt u r ≤ u.E.length := List.countP_le_length
   have := hsm.2.1
   omega
 have i1 : IntKind.i64.wrap ((lks u r : Int) + 1) = (lks u r : Int) + 1 := by rw [IntKind.wrap_i64]; omega
 have HRf := hide (And.intro (Fr.refl (fun k => c k ≠ .no) w) True.intro)
 cases hn : nd u r with
 | none =>
  have e1 : ln u d s r = (1, u) := by unfold ln; rw [if_pos (.inr hn)]
  rw [e1]
  rw [hn] at hl
  simp only [Option.map_none, Option.getD_none, Option.isSome_none] at hl
  clear hB hwf hpar hsm hn e1 HPl
  go_enter Try.func15, Try.ntmps15
  go_wp2
  go_ret
  exact ⟨rfl, HU.out, HRf.out.1⟩
 | some n =>
  rw [hn] at hl
  simp only [Option.map_some, Option.getD_some, Option.isSome_some] at hl
  by_cases hf : frs u d s = 0
  ·have hd0 : dirE u d = 0 := dirE_zero.2 (frs_zero hf).1
   have e0 : ptrD u nb d = some ⟨nb d, 0, none⟩ := by unfold ptrD; rw [if_pos hd0]
   rw [hf, e0] at HPl
   obtain ⟨nD, hnD, hkD⟩ := dirE_zero.1 hd0
   have HCs : Hid (∀ W, Below w.heap.size w W → W.cell? ⟨nb r, 2, none⟩ = some (.int .i64 n.kind) ∧ W.cell? ⟨nb d, 11, none⟩ = some (.map (some (eb d)))) := fun W hW => by
    have hb := HUB.out.below hW
    obtain ⟨_, _, v, hv⟩ := hb.at hn
    obtain ⟨_, _, v2, hv2⟩ := hb.at hnD
    have e1 := hv2.e
    rw [if_pos hkD] at e1
    exact ⟨hv.k, e1⟩
   by_cases hk : n.kind = 1
   ·have e1 : ln u d s r = (25, u) := by unfold ln; rw [if_neg (by rw [hn, hnD]; simp), if_neg (by rw [hf]; simp), if_pos (by rw [knd_some hn]; exact hk)]
    rw [e1]
    have HK := hide hk
    clear hB hwf hpar hsm hn e1 hf hk hd0 e0 hnD
    go_enter Try.func15, Try.ntmps15
    go_wp2_with fail
    refine HPl.out.mono ?_
    rintro e w2 ⟨rfl, hb2⟩
    have k2 := (HCs.out w2 hb2).1
    rw [HK.out] at k2
    have HB2 := hide hb2
    clear hb2 c2 hl
    go_wp2
    go_ret
    exact ⟨rfl, HU.out.below HB2.out, Fr.of_below HB2.out⟩
   ·have e1 : (ln u d s r).1 = 0 := by unfold ln; rw [if_neg (by rw [hn, hnD]; simp), if_neg (by rw [hf]; simp), if_neg (by rw [knd_some hn]; exact hk)]
    rw [e1]
    have HLn : Hid (∀ W, Below w.heap.size w W → _) := fun W hW => ln_fin (HUB.out.below hW) HWf.out HPar.out HSm.out hn hf hk hs
    have k0 : (n.kind == 1) = false := by simpa using hk
    clear hB hwf hpar hsm hn e1 hf hk hd0 e0 hnD
    go_enter Try.func15, Try.ntmps15
    go_wp2_with fail
    refine HPl.out.mono ?_
    rintro e w2 ⟨rfl, hb2⟩
    obtain ⟨k2, k11⟩ := HCs.out w2 hb2
    obtain ⟨w3, r3, l3, f3, hup, hfr⟩ := HLn.out w2 hb2
    have HF := hide (And.intro hup ((Fr.of_below (S := fun k => c k ≠ .no) hb2).then hfr))
    clear hb2 c2 hl hup hfr HLn HCs
    go_wp2
    go_ret
    exact ⟨rfl, HF.out⟩
  ·have e1 : ln u d s r = (frs u d s, u) := by
    unfold ln
    cases hd0 : nd u d with
    | none =>
     rw [if_pos (.inl rfl)]
     have : frs u d s = 1 := by
      unfold frs dirE; rw [hd0]; rfl
     rw [this]
    | some x => rw [if_neg (by rw [hn]; simp), if_pos hf]
   rw [e1]
   have k0 : (frs u d s == 0) = false := by simpa using hf
   generalize frs u d s = ee at *
   clear hB hwf hpar hsm hn hf e1
   go_enter Try.func15, Try.ntmps15
   go_wp2_with fail
   refine HPl.out.mono ?_
   rintro e w2 ⟨rfl, hb2⟩
   have HB2 := hide hb2
   clear hb2 c2 hl
   go_wp2
   go_ret
   exact ⟨rfl, HU.out.below HB2.out, Fr.of_below HB2.out⟩
end Upr
end Go.Proofs.Ytdobojnokgkbpaa
namespace Go.Proofs.Ytdobojnokgkbpaa
open Go.RowKit Go.Maps
open Nam Tre Tab
open Lz (g)
namespace Upr
theorem cnt_less {u : Us} (hk : u.E.Pairwise (fun a b => ¬ (a.dir = b.dir ∧ a.nam = b.nam))) {d : Int} {s : ByteArray} {x : En} (hx : en u d s = some x) (L : List Nod) (y : Int) : cnt ⟨L, less1 u.E d s, u.nx⟩ y + (if x.ref = y then 1 else 0) = cnt u y := by
 obtain ⟨x1, x2, x3⟩ := en_some hx
 unfold cnt less1
 rw [List.countP_filter, countP_split (fun e : En => decide (e.ref = y)) (fun e => decide (e.dir = d ∧ e.nam = s)) u.E]
 congr 1
 have hone := cnt_one (p := fun e : En => decide (e.ref = y) && decide (e.dir = d ∧ e.nam = s)) (hk.imp (fun {a b} hab q => by
  simp only [Bool.and_eq_true, decide_eq_true_eq] at q
  exact hab ⟨q.1.2.1.trans q.2.2.1.symm, q.1.2.2.trans q.2.2.2.symm⟩))
 by_cases h : x.ref = y
 ·rw [if_pos h]
  have pos : 0 < u.E.countP (fun e => decide (e.ref = y) && decide (e.dir = d ∧ e.nam = s)) := List.countP_pos_iff.2 ⟨x, x1, by simp [h, x2, x3]⟩
  omega
 ·rw [if_neg h, eq_comm, List.countP_eq_zero]
  intro z hz q
  simp only [Bool.and_eq_true, decide_eq_true_eq] at q
  have := key_inj hk z hz x x1 (q.2.1.trans x2.symm) (q.2.2.trans x3.symm)
  exact h (by rw [← this]; exact q.1)
theorem lks_less {u : Us} (hk : u.E.Pairwise (fun a b => ¬ (a.dir = b.dir ∧ a.nam = b.nam))) {d : Int} {s : ByteArray} {x : En} (hx : en u d s = some x) (h1 : x.ref ≠ 1) (L : List Nod) (y : Int) : (lks ⟨L, less1 u.E d s, u.nx⟩ y : Int) = if y = x.ref then (lks u y : Int) - 1 else (lks u y : Int) := by
 have h := cnt_less hk hx L y
 unfold lks
 by_cases e : y = 1
 ·rw [if_pos e, if_pos e, if_neg (fun z => h1 (z.symm.trans e))]
 ·rw [if_neg e, if_neg e]
  by_cases e2 : x.ref = y
  ·rw [if_pos e2] at h
   rw [if_pos e2.symm]; omega
  ·rw [if_neg e2] at h
   rw [if_neg (fun z => e2 z.symm)]; omega
def leafD (u : Us) (d : Int) (s : ByteArray) (r : Int) : Us :=
 if 0 < lks { u with E := less1 u.E d s } r then { u with E := less1 u.E d s } else ⟨u.L.filter (fun k => !decide (k.ino = r)), less1 u.E d s, u.nx⟩
section
variable {p : Nat} {c : Nat → Cl} {q : Int × Int × Int} {u : Us} {pr : Int → Int} {m : Nat} {nb eb : Int → Nat}
def Goes (c : Nat → Cl) (w w' : World) (b : Nat) (s : ByteArray) : Prop := ∀ i sz f left cnt, c i = .no → RgS w b i sz f left cnt → ∃ cnt', RgS w' b i sz (fun y => if y = s then none else f y) (fun z => left z && !decide (z = s)) cnt' ∧ cnt' ≤ cnt
theorem drop_head {w : World} (h : UB w p c q u (fun r => (lks u r : Int)) pr m nb eb) {d : Int} {s : ByteArray} {nD n : Nod} {x : En} (hD : nd u d = some nD) (hkD : nD.kind = 1) (hx : en u d s = some x) (hn : nd u x.ref = some n) (h1 : x.ref ≠ 1) (hs : s.size ≤ maxLen) (ty : TypeId) :
  ∃ w2, (Builtin.delete_ #[73, 9] ty #[.map (some (eb d)), .string s]).run Try.prog w = .ok (.tuple #[]) w2 ∧ UB w2 p c q { u with E := less1 u.E d s } (fun r => (lks u r : Int)) pr m nb eb ∧ Fr (fun k => c k ≠ .no) w w2 ∧
   ∃ w3, w3 = w2.setCell ⟨nb x.ref, 10, none⟩ (.int .i64 ((lks u x.ref : Int) - 1)) ∧ UB w3 p c q { u with E := less1 u.E d s } (fun r => (lks { u with E := less1 u.E d s } r : Int)) pr m nb eb ∧ Fr (fun k => c k ≠ .no) w w3 ∧ w3.heap.size = w.heap.size ∧ Goes c w w3 (eb d) s := by
 obtain ⟨w2, r2, h2, f2, s2⟩ := h.delE hD hkD s hs ty
 have hn2 : nd { u with E := less1 u.E d s } x.ref = some n := hn
 obtain ⟨h3, f3⟩ := h2.setL hn2 ((lks u x.ref : Int) - 1)
 have hce := h.cer hD hkD
 have f2' : Fr (fun k => c k ≠ .no) w w2 := f2.mono (fun k _ hk => by rw [hk]; intro e; cases e)
 have f3' : Fr (fun k => c k ≠ .no) w (w2.setCell ⟨nb x.ref, 10, none⟩ (.int .i64 ((lks u x.ref : Int) - 1))) := f2'.trans f3 (fun k _ hk => by rw [hk]; intro e; cases e)
 refine ⟨w2, r2, h2, f2', _, rfl, ?_, f3', by simpa using s2, ?_⟩
 ·refine h3.lks (fun n _ => ?_) (fun _ _ _ => rfl)
  show (if n.ino = x.ref then (lks u x.ref : Int) - 1 else (lks u n.ino : Int)) = ((lks ⟨u.L, less1 u.E d s, u.nx⟩ n.ino : Nat) : Int)
  rw [lks_less h.key hx h1]
  by_cases e : n.ino = x.ref
  ·rw [if_pos e, if_pos e, e]
  ·rw [if_neg e, if_neg e]
 ·intro i sz f left cnt hi hg
  obtain ⟨w2', cnt', r2', g2, hle, _, _⟩ := hg.drop Try.underlying73 hs ty
  have : w2' = w2 := by
   have := r2'.symm.trans r2
   injection this
  subst this
  have hm := (h2.ent nD (nd_some hD).1 hkD)
  rw [(nd_some hD).2] at hm
  refine ⟨cnt', g2.same (f3.block _ hm.lt (by rw [hce]; intro e; cases e)) (f3.block i g2.lt (by rw [hi]; intro e; cases e)), hle⟩
set_option maxRecDepth 100000 in
set_option maxHeartbeats 1000000 in
theorem uleaf_any {w : World} (h : UB w p c q u (fun r => (lks u r : Int)) pr m nb eb) {d : Int} {s : ByteArray} {nD n : Nod} {x : En} (hD : nd u d = some nD) (hkD : nD.kind = 1) (hx : en u d s = some x) (hn : nd u x.ref = some n) (hk : n.kind ≠ 1) (h1 : x.ref ≠ 1) (hs : s.size ≤ maxLen) (hE : u.E.length ≤ 100000) (hr : (Lit.int .i64 x.ref).wf = true) :
  Calls Try.prog 30 #[.pointer (some ⟨p, 0, none⟩), .pointer (some ⟨nb d, 0, none⟩), .string s] w fun e w' => e = .returned (.tuple #[]) ∧ UB w' p c q (leafD u d s x.ref) (fun r => (lks (leafD u d s x.ref) r : Int)) pr m nb eb ∧ Fr (fun k => c k ≠ .no) w w' ∧ Goes c w w' (eb d) s := by
 obtain ⟨_, _, vD, hvD⟩ := h.at hD
 have eD := hvD.e
 rw [if_pos hkD] at eD
 have l0 := (h.ents hD hkD).get Try.underlying73 (zeroI _) hs
 unfold enF at l0
 rw [hx] at l0
 simp only [Option.map_some, Option.getD_some] at l0
 obtain ⟨w2, r2, h2, f2, w3, hw3, h3, f3, s3, hG⟩ := drop_head h hD hkD hx hn h1 hs 0
 have eD2 := eD
 have c2 := h2.c2
 have hn2 : nd { u with E := less1 u.E d s } x.ref = some n := hn
 have l2 := h2.get hr hn2
 obtain ⟨_, _, v2, hv2⟩ := h2.at hn2
 have k10 := hv2.l
 have g10 := hv2.f 10
 obtain ⟨_, _, v3, hv3⟩ := h3.at hn2
 have j10 := hv3.l
 have j11 := hv3.e
 rw [if_neg hk] at j11
 have hc3 := h3.c2
 have hkl : lks u x.ref ≤ 100001 := by
  unfold lks
  split
  ·omega
  ·have : cnt u x.ref ≤ u.E.length := List.countP_le_length
   omega
 have hle := lks_less h.key hx h1 u.L x.ref
 rw [if_pos rfl] at hle
 have hle' : ((lks { u with E := less1 u.E d s } x.ref : Nat) : Int) = (lks u x.ref : Int) - 1 := hle
 rw [hle'] at j10
 have i1 : IntKind.i64.wrap ((lks u x.ref : Int) - 1) = (lks u x.ref : Int) - 1 := by rw [IntKind.wrap_i64]; omega
 by_cases hp : 0 < lks { u with E := less1 u.E d s } x.ref
 ·have e1 : leafD u d s x.ref = { u with E := less1 u.E d s } := by unfold leafD; rw [if_pos hp]
  rw [e1]
  have t1 : decide ((0 : Int) < (lks u x.ref : Int) - 1) = true := by rw [decide_eq_true_eq]; omega
  have t2 : (0 : Int) < (lks u x.ref : Int) - 1 := by omega
  have t3 : 1 < lks u x.ref := by omega
  have HF := hide (And.intro h3 (And.intro f3 hG))
  subst hw3
  clear h h2 f2 h3 f3 hG hvD hD hkD hx hn hn2 hv2 hv3 e1 hle hle' hp
  go_enter Try.func30, Try.ntmps30
  go_wp2
  refine bodyPost_ret (results_none rfl _ _ _) rfl ?_
  exact ⟨rfl, HF.out⟩
 ·have e1 : leafD u d s x.ref = ⟨u.L.filter (fun k => !decide (k.ino = x.ref)), less1 u.E d s, u.nx⟩ := by unfold leafD; rw [if_neg hp]
  rw [e1]
  have t1 : decide ((0 : Int) < (lks u x.ref : Int) - 1) = false := by rw [decide_eq_false_iff_not]; omega
  have t2 : ¬ (0 : Int) < (lks u x.ref : Int) - 1 := by omega
  have t3 : ¬ 1 < lks u x.ref := by omega
  have hrg := run_range_nilMap (P := Try.prog) w3 73 9 3 Try.underlying73
  have hnx : ∀ ty, (Instr.next (.pointer (some ⟨w3.heap.size, 0, none⟩)) false ty).run Try.prog (w3.alloc (.mapIter none 0 #[] 0)) = _ := fun ty => run_next_nilMap w3 ty 0 0 #[]
  have e3 : w3.heap.size = w2.heap.size := by rw [hw3]; simp
  rw [e3] at hrg hnx
  have h4 := h3.below (below_one w3 (.mapIter none 0 #[] 0))
  obtain ⟨w5, r5, h5, f5, s5⟩ := h4.delN hn2 hr 0
  have hc4 := h4.c2
  have HF : Hid (UB w5 p c q ⟨u.L.filter (fun k => !decide (k.ino = x.ref)), less1 u.E d s, u.nx⟩ (fun r => (lks ⟨u.L.filter (fun k => !decide (k.ino = x.ref)), less1 u.E d s, u.nx⟩ r : Int)) pr m nb eb ∧ Fr (fun k => c k ≠ .no) w w5 ∧ Goes c w w5 (eb d) s) := by
   have fa : Fr (fun k => c k ≠ .no) w (w3.alloc (.mapIter none 0 #[] 0)) := f3.alloc _
   refine ⟨h5, fa.trans f5 (fun k _ hk => by rw [hk]; intro e; cases e), fun i sz f left cnt hi hg => ?_⟩
   obtain ⟨cnt', g3, hle⟩ := hG i sz f left cnt hi hg
   have hce := h.cer hD hkD
   have hm := (h3.ent nD (nd_some hD).1 hkD)
   rw [(nd_some hD).2] at hm
   have fb : Fr (fun k => c k = .nds) w3 w5 := (Fr.of_below (below_one w3 _)).trans f5 (fun k _ hk => hk)
   exact ⟨cnt', g3.same (fb.block _ hm.lt (by rw [hce]; intro e; cases e)) (fb.block i g3.lt (by rw [hi]; intro e; cases e)), hle⟩
  subst hw3
  clear h h2 f2 h3 f3 hG hvD hD hkD hx hn hn2 hv2 hv3 e1 hle hle' hp h4 h5 f5 s5 s3
  go_enter Try.func30, Try.ntmps30
  go_wp2
  refine wp_loop_rounds 1 ?_
  rw [rounds_succ]
  go_wp2
  go_end0
  exact ⟨rfl, HF.out⟩
end
end Upr
end Go.Proofs.Ytdobojnokgkbpaa
namespace Go.Proofs.Ytdobojnokgkbpaa
open Nam Tre
namespace Upr
def EV (u : Us) (e : En) (left : ByteArray → Bool) : List En := (less1 u.E e.dir e.nam).filter (fun x => !(decide (x.dir = e.ref) && !left x.nam))
def LV (u : Us) (e : En) (left : ByteArray → Bool) : List Nod := u.L.filter (fun n => decide (n.ino = 1) || decide (n.ino = e.ref) || (EV u e left).any (fun x => decide (x.ref = n.ino)))
def uV (u : Us) (e : En) (left : ByteArray → Bool) : Us := ⟨LV u e left, EV u e left, u.nx⟩
theorem filter_all {α : Type} {p : α → Bool} {l : List α} (h : ∀ x ∈ l, p x = true) : l.filter p = l := List.filter_eq_self.2 h
section
variable {u : Us} {e : En}
theorem Wf.ne_dir (h : Wf u) (he : e ∈ u.E) (hk : knd u e.ref = 1) : e.dir ≠ e.ref := by
 obtain ⟨rk, hr⟩ := h.top
 obtain ⟨n, hn⟩ := h.ndr he
 obtain ⟨h1, h2⟩ := nd_some hn
 have := hr e he n h1 h2 (by rw [knd_some hn] at hk; exact hk)
 intro z
 rw [z] at this
 omega
theorem uV_start (h : Wf u) (he : e ∈ u.E) {left : ByteArray → Bool} (hl : ∀ x ∈ u.E, x.dir = e.ref → left x.nam = true) : uV u e left = { u with E := less1 u.E e.dir e.nam } := by
 have e1 : EV u e left = less1 u.E e.dir e.nam := filter_all (fun x hx => by
  have := (mem_less1.1 hx).1
  by_cases q : x.dir = e.ref
  ·simp [q, hl x this q]
  ·simp [q])
 have e2 : LV u e left = u.L := filter_all (fun n hn => by
  rw [e1]
  by_cases q1 : n.ino = 1
  ·simp [q1]
  by_cases q2 : n.ino = e.ref
  ·simp [q2]
  obtain ⟨x, x1, x2⟩ := h.has n hn q1
  have : (less1 u.E e.dir e.nam).any (fun x => decide (x.ref = n.ino)) = true := List.any_eq_true.2 ⟨x, mem_less1.2 ⟨x1, fun q => by
   have := key_inj h.key x x1 e he q.1 q.2
   rw [this] at x2
   exact q2 x2.symm⟩, by simpa using x2⟩
  rw [this]; simp)
 unfold uV
 rw [e1, e2]
theorem mem_EV {left : ByteArray → Bool} {x : En} : x ∈ EV u e left ↔ x ∈ u.E ∧ ¬ (x.dir = e.dir ∧ x.nam = e.nam) ∧ (x.dir = e.ref → left x.nam = true) := by
 unfold EV
 rw [List.mem_filter, mem_less1]
 simp only [Bool.not_eq_true', Bool.and_eq_false_iff, decide_eq_false_iff_not]
 constructor
 ·rintro ⟨⟨h1, h2⟩, h3⟩
  refine ⟨h1, h2, fun q => ?_⟩
  rcases h3 with h3 | h3
  ·exact absurd q h3
  ·simpa using h3
 ·rintro ⟨h1, h2, h3⟩
  refine ⟨⟨h1, h2⟩, ?_⟩
  by_cases q : x.dir = e.ref
  ·right; simpa using h3 q
  ·left; exact q
theorem EV_step (left : ByteArray → Bool) (x : ByteArray) : EV u e (fun z => left z && !decide (z = x)) = less1 (EV u e left) e.ref x := by
 unfold EV
 show _ = List.filter _ (List.filter _ _)
 rw [List.filter_filter]
 apply List.filter_congr
 intro y _
 by_cases h1 : y.dir = e.ref <;> by_cases h2 : y.nam = x <;> cases hl : left y.nam <;> simp [h1, h2, hl]
theorem uV_en (h : Wf u) (he : e ∈ u.E) (hk : knd u e.ref = 1) {left : ByteArray → Bool} {x : ByteArray} {y : En} (hl : left x = true) (hy : en u e.ref x = some y) : en (uV u e left) e.ref x = some y := by
 obtain ⟨y1, y2, y3⟩ := en_some hy
 have hm : y ∈ EV u e left := mem_EV.2 ⟨y1, fun q => h.ne_dir he hk (q.1.symm.trans y2), fun _ => by rw [y3]; exact hl⟩
 have hkey : (EV u e left).Pairwise (fun a b => ¬ (a.dir = b.dir ∧ a.nam = b.nam)) := (h.key.filter _).filter _
 have := en_mem (u := uV u e left) hkey hm
 rw [y2, y3] at this
 exact this
theorem uV_nd (h : Wf u) {left : ByteArray → Bool} {r : Int} {n : Nod} (hn : nd u r = some n) (hr : r = 1 ∨ r = e.ref ∨ ∃ x ∈ EV u e left, x.ref = r) : nd (uV u e left) r = some n := by
 obtain ⟨h1, h2⟩ := nd_some hn
 have hm : n ∈ LV u e left := by
  unfold LV
  rw [List.mem_filter]
  refine ⟨h1, ?_⟩
  rw [h2]
  rcases hr with hr | hr | ⟨x, x1, x2⟩
  ·simp [hr]
  ·simp [hr]
  ·rw [List.any_eq_true.2 ⟨x, x1, by simpa using x2⟩]; simp
 have := nd_mem (u := uV u e left) ((List.filter_sublist.map Nod.ino).nodup h.ino) hm
 rw [h2] at this
 exact this
theorem uV_step (h : Wf u) (he : e ∈ u.E) (hk : knd u e.ref = 1) {left : ByteArray → Bool} {x : ByteArray} {y : En} (hl : left x = true) (hy : en u e.ref x = some y) (hyk : knd u y.ref = 4) : uV u e (fun z => left z && !decide (z = x)) = leafD (uV u e left) e.ref x y.ref := by
 obtain ⟨y1, y2, y3⟩ := en_some hy
 have yr1 : y.ref ≠ 1 := (h.ref y y1).1
 have yre : y.ref ≠ e.ref := fun z => by rw [z, hk] at hyk; cases hyk
 have hm : y ∈ EV u e left := mem_EV.2 ⟨y1, fun q => h.ne_dir he hk (q.1.symm.trans y2), fun _ => by rw [y3]; exact hl⟩
 have hs := EV_step (u := u) (e := e) left x
 have memS : ∀ z, z ∈ EV u e left ↔ z = y ∨ z ∈ EV u e (fun z => left z && !decide (z = x)) := fun z => by
  rw [hs, mem_less1]
  constructor
  ·intro hz
   by_cases q : z.dir = e.ref ∧ z.nam = x
   ·left
    exact key_inj h.key z (mem_EV.1 hz).1 y y1 (q.1.trans y2.symm) (q.2.trans y3.symm)
   ·exact .inr ⟨hz, q⟩
  ·rintro (rfl | ⟨hz, _⟩)
   ·exact hm
   ·exact hz
 have hlk : lks { uV u e left with E := less1 (uV u e left).E e.ref x } y.ref = (EV u e (fun z => left z && !decide (z = x))).countP (fun z => decide (z.ref = y.ref)) := by
  unfold lks cnt
  rw [if_neg yr1, hs]; rfl
 unfold leafD
 rw [hlk]
 by_cases hc : 0 < (EV u e (fun z => left z && !decide (z = x))).countP (fun z => decide (z.ref = y.ref))
 ·rw [if_pos hc]
  obtain ⟨z, z1, z2⟩ := List.countP_pos_iff.1 hc
  have z2 : z.ref = y.ref := by simpa using z2
  unfold uV
  simp only
  rw [← hs]
  have : LV u e (fun z => left z && !decide (z = x)) = LV u e left := by
   unfold LV
   apply List.filter_congr
   intro n _
   congr 1
   rw [Bool.eq_iff_iff, List.any_eq_true, List.any_eq_true]
   constructor
   ·rintro ⟨t, t1, t2⟩; exact ⟨t, (memS t).2 (.inr t1), t2⟩
   ·rintro ⟨t, t1, t2⟩
    rcases (memS t).1 t1 with rfl | t1
    ·exact ⟨z, z1, by rw [z2]; exact t2⟩
    ·exact ⟨t, t1, t2⟩
  rw [this]
 ·rw [if_neg hc]
  have hno : ∀ t ∈ EV u e (fun z => left z && !decide (z = x)), t.ref ≠ y.ref := fun t ht q => hc (List.countP_pos_iff.2 ⟨t, ht, by simpa using q⟩)
  unfold uV
  simp only
  rw [← hs]
  have : LV u e (fun z => left z && !decide (z = x)) = (LV u e left).filter (fun k => !decide (k.ino = y.ref)) := by
   unfold LV
   rw [List.filter_filter]
   apply List.filter_congr
   intro n _
   rw [Bool.eq_iff_iff]
   simp only [Bool.or_eq_true, Bool.and_eq_true, decide_eq_true_eq, List.any_eq_true, Bool.not_eq_true', decide_eq_false_iff_not]
   constructor
   ·rintro ((q | q) | ⟨t, t1, t2⟩)
    ·exact ⟨fun z => yr1 (z.symm.trans q), .inl (.inl q)⟩
    ·exact ⟨fun z => yre (z.symm.trans q), .inl (.inr q)⟩
    ·exact ⟨fun z => hno t t1 (t2.trans z), .inr ⟨t, (memS t).2 (.inr t1), t2⟩⟩
   ·rintro ⟨q0, (q | q) | ⟨t, t1, t2⟩⟩
    ·exact .inl (.inl q)
    ·exact .inl (.inr q)
    ·rcases (memS t).1 t1 with rfl | t1
     ·exact absurd t2.symm q0
     ·exact .inr ⟨t, t1, t2⟩
  rw [this]
theorem uV_end (h : Wf u) (he : e ∈ u.E) (hk : knd u e.ref = 1) {left : ByteArray → Bool} (hl : ∀ x, left x = false) : ({ uV u e left with L := (uV u e left).L.filter (fun k => !decide (k.ino = e.ref)) } : Us) = drop u e := by
 have hr1 := (h.ref e he).1
 obtain ⟨n, hn⟩ := h.ndr he
 obtain ⟨n1, n2⟩ := nd_some hn
 have only : ∀ x ∈ u.E, x.ref = e.ref → x = e := fun x hx q => h.one n n1 (by rw [knd_some hn] at hk; exact hk) x hx e he (q.trans n2.symm) n2.symm
 have hno : (less1 u.E e.dir e.nam).any (fun x => decide (x.ref = e.ref)) = false := by
  rw [List.any_eq_false]
  intro x hx q
  obtain ⟨x1, x2⟩ := mem_less1.1 hx
  have := only x x1 (by simpa using q)
  exact x2 (by rw [this]; exact ⟨rfl, rfl⟩)
 have e1 : EV u e left = (less1 u.E e.dir e.nam).filter (fun x => !decide (x.dir = e.ref)) := by
  unfold EV
  apply List.filter_congr
  intro x _
  rw [hl]; simp
 unfold drop
 rw [if_neg (by rw [hno]; simp)]
 unfold uV
 simp only
 rw [e1]
 have : (LV u e left).filter (fun k => !decide (k.ino = e.ref)) = u.L.filter (fun n => decide (n.ino = 1) || ((less1 u.E e.dir e.nam).filter (fun x => !decide (x.dir = e.ref))).any (fun x => decide (x.ref = n.ino))) := by
  unfold LV
  rw [List.filter_filter, e1]
  apply List.filter_congr
  intro k _
  by_cases q : k.ino = e.ref
  ·have q1 : decide (k.ino = 1) = false := by rw [q]; simpa using hr1
   have q2 : ((less1 u.E e.dir e.nam).filter (fun x => !decide (x.dir = e.ref))).any (fun x => decide (x.ref = k.ino)) = false := by
    rw [List.any_eq_false]
    intro x hx z
    rw [List.any_eq_false] at hno
    exact hno x (List.mem_filter.1 hx).1 (by rw [q] at z; exact z)
   rw [q1, q2]; simp [q]
  ·simp [q]
 rw [this]
theorem leaf_drop (h : Wf u) (he : e ∈ u.E) (hk : knd u e.ref ≠ 1) : leafD u e.dir e.nam e.ref = drop u e := by
 have hr1 := (h.ref e he).1
 have hlk : lks { u with E := less1 u.E e.dir e.nam } e.ref = (less1 u.E e.dir e.nam).countP (fun z => decide (z.ref = e.ref)) := by
  unfold lks cnt; rw [if_neg hr1]
 unfold leafD drop
 rw [hlk]
 by_cases hc : 0 < (less1 u.E e.dir e.nam).countP (fun z => decide (z.ref = e.ref))
 ·obtain ⟨z, z1, z2⟩ := List.countP_pos_iff.1 hc
  rw [if_pos hc, if_pos (List.any_eq_true.2 ⟨z, z1, z2⟩)]
 ·have hno : ¬ (less1 u.E e.dir e.nam).any (fun x => decide (x.ref = e.ref)) = true := fun q => by
   obtain ⟨z, z1, z2⟩ := List.any_eq_true.1 q
   exact hc (List.countP_pos_iff.2 ⟨z, z1, z2⟩)
  rw [if_neg hc, if_neg hno]
  have k0 := h.kin0 hk
  have e1 : (less1 u.E e.dir e.nam).filter (fun x => !decide (x.dir = e.ref)) = less1 u.E e.dir e.nam := filter_all (fun x hx => by
   unfold kin at k0
   rw [List.countP_eq_zero] at k0
   have := k0 x (mem_less1.1 hx).1
   simpa using this)
  rw [e1]
  congr 1
  apply List.filter_congr
  intro k hk
  by_cases q : k.ino = e.ref
  ·have q1 : decide (k.ino = 1) = false := by rw [q]; simpa using hr1
   have q2 : (less1 u.E e.dir e.nam).any (fun x => decide (x.ref = k.ino)) = false := by
    rw [q]; simpa using hno
   rw [q1, q2]; simp [q]
  ·have : decide (k.ino = 1) || (less1 u.E e.dir e.nam).any (fun x => decide (x.ref = k.ino)) := by
    by_cases q1 : k.ino = 1
    ·simp [q1]
    ·obtain ⟨x, x1, x2⟩ := h.has k hk q1
     rw [Bool.or_eq_true]
     right
     exact List.any_eq_true.2 ⟨x, mem_less1.2 ⟨x1, fun z => q (by rw [← key_inj h.key x x1 e he z.1 z.2]; exact x2.symm)⟩, by simpa using x2⟩
   rw [this]; simp [q]
end
end Upr
end Go.Proofs.Ytdobojnokgkbpaa
namespace Go.Proofs.Ytdobojnokgkbpaa
open Go.RowKit Go.Maps
open Nam Tre Tab
open Lz (g)
namespace Upr
section
variable {p : Nat} {c : Nat → Cl} {q : Int × Int × Int} {u : Us} {pr : Int → Int} {m : Nat} {nb eb : Int → Nat}
theorem fullB_white {u : Us} {r : Int} (h : fullB u r = false) : ∀ x ∈ u.E, x.dir = r → knd u x.ref = 4 := fun x hx hd => by
 unfold fullB at h
 rw [List.any_eq_false] at h
 have := h x hx
 simp only [Bool.and_eq_true, decide_eq_true_eq, Bool.not_eq_true', decide_eq_false_iff_not] at this
 exact Classical.byContradiction fun z => this ⟨hd, z⟩
theorem Wf.enm {u : Us} (h : Wf u) {x : En} (hx : x ∈ u.E) : x.nam.size ≤ maxLen := maxl (by have := valid_size (h.nam x hx); omega)
set_option maxRecDepth 100000 in
set_option maxHeartbeats 2000000 in
theorem udrop_any {w : World} (h : UB w p c q u (fun r => (lks u r : Int)) pr m nb eb) (hwf : Wf u) (hsm : Sm u) {d : Int} {s : ByteArray} {x : En} (hx : en u d s = some x) (hfu : fullB u x.ref = false) :
  Calls Try.prog 30 #[.pointer (some ⟨p, 0, none⟩), .pointer (some ⟨nb d, 0, none⟩), .string s] w fun e w' => e = .returned (.tuple #[]) ∧ UB w' p c q (drop u x) (fun r => (lks (drop u x) r : Int)) pr m nb eb ∧ Fr (fun k => c k ≠ .no) w w' := by
 obtain ⟨x1, x2, x3⟩ := en_some hx
 have hs : s.size ≤ maxLen := by rw [← x3]; exact hwf.enm x1
 obtain ⟨nD, hD, hkD⟩ := hwf.ndd x1
 rw [x2] at hD
 obtain ⟨n, hn⟩ := hwf.ndr x1
 have h1 := (hwf.ref x x1).1
 have hr : (Lit.int .i64 x.ref).wf = true := sm_ref hwf hsm hn
 by_cases hk : n.kind = 1
 ·have hkx : knd u x.ref = 1 := by rw [knd_some hn]; exact hk
  have hdr : x.dir ≠ x.ref := hwf.ne_dir x1 hkx
  have hwh := fullB_white hfu
  obtain ⟨_, _, vD, hvD⟩ := h.at hD
  have eD := hvD.e
  rw [if_pos hkD] at eD
  have l0 := (h.ents hD hkD).get Try.underlying73 (zeroI _) hs
  unfold enF at l0
  rw [hx] at l0
  simp only [Option.map_some, Option.getD_some] at l0
  obtain ⟨w2, r2, h2, f2, w3, hw3, h3, f3, s3, hG⟩ := drop_head h hD hkD hx hn h1 hs 0
  have c2 := h2.c2
  have hn2 : nd { u with E := less1 u.E d s } x.ref = some n := hn
  have l2 := h2.get hr hn2
  obtain ⟨_, _, v2, hv2⟩ := h2.at hn2
  have k10 := hv2.l
  have g10 := hv2.f 10
  obtain ⟨_, _, v3, hv3⟩ := h3.at hn2
  have j11 := hv3.e
  rw [if_pos hk] at j11
  have hone : lks u x.ref = 1 := by
   unfold lks cnt
   rw [if_neg h1]
   obtain ⟨n1, n2⟩ := nd_some hn
   have le := cnt_one (p := fun e : En => decide (e.ref = x.ref)) (hwf.key.imp_of_mem (fun {a b} ha hb hab q => by
    simp only [decide_eq_true_eq] at q
    have := hwf.one n n1 hk a ha b hb (q.1.trans n2.symm) (q.2.trans n2.symm)
    exact hab (by rw [this]; exact ⟨rfl, rfl⟩)))
   have pos : 0 < u.E.countP (fun e => decide (e.ref = x.ref)) := List.countP_pos_iff.2 ⟨x, x1, by simp⟩
   omega
  rw [hone] at k10 hw3
  have hw3' : w3 = w2.setCell ⟨nb x.ref, 10, none⟩ (.int .i64 0) := by rw [hw3]; rfl
  have e3 : w3.heap.size = w2.heap.size := by rw [hw3']; simp
  have hst : uV u x (fun y => (enF u x.ref y).isSome) = { u with E := less1 u.E d s } := by
   rw [← x2, ← x3]
   exact uV_start hwf x1 (fun y hy hd => by
    have := en_mem hwf.key hy
    rw [hd] at this
    unfold enF; rw [this]; rfl)
  have hfe : ∀ y, enF { u with E := less1 u.E d s } x.ref y = enF u x.ref y := fun y => by
   unfold enF
   rw [en_less, if_neg (fun z => hdr (x2.trans z.1.symm))]
  obtain ⟨w4, r4, hrg, hg4, hs4⟩ := (h3.ents hn2 hk).range Try.underlying73
  have b4 : Below w3.heap.size w3 w4 := (Below.refl _ _).grown hg4 (Nat.le_refl _) (fun k e => by cases e)
  have h4 := h3.below b4
  have hci : c w3.heap.size = .no := by
   by_cases e : c w3.heap.size = .no
   ·exact e
   ·have := h3.low _ e; omega
  have f4 : Fr (fun k => c k ≠ .no) w w4 := f3.then (Fr.of_below b4)
  have H0 : Hid (∃ (f : ByteArray → Option Value) (left : ByteArray → Bool) (cnt : Nat), RgS w4 (eb x.ref) w2.heap.size (kin { u with E := less1 u.E d s } x.ref) f left cnt ∧ (∀ y v, f y = some v → enF u x.ref y = some v) ∧ UB w4 p c q (uV u x left) (fun r => (lks (uV u x left) r : Int)) pr m nb eb ∧ Fr (fun k => c k ≠ .no) w w4) := by
   rw [e3] at hrg
   refine ⟨_, fun y => (enF u x.ref y).isSome, kin { u with E := less1 u.E d s } x.ref, ?_, fun y v hv => by rw [← hfe y]; exact hv, ?_, f4⟩
   ·have e : (fun y => (enF { u with E := less1 u.E d s } x.ref y).isSome) = (fun y => (enF u x.ref y).isSome) := by funext y; rw [hfe y]
    rw [← e]; exact hrg
   ·rw [hst]; exact h4
  rw [e3] at r4 hci
  have HC := hide hci
  have HS2 : Hid (w.heap.size ≤ w2.heap.size) := f2.size
  have HWf := hide hwf
  have HSm := hide hsm
  have HX := hide x1
  have HKx := hide hkx
  have HWh := hide hwh
  have HN := hide (And.intro hn hk)
  rw [hw3'] at r4 j11
  clear h h2 f2 h3 f3 hG hvD hD hkD hx hn hn2 hv2 hv3 hw3 hw3' hone hst hfe hrg hg4 hs4 b4 h4 hci f4 hwf hsm hkx hwh x1 x2 x3 e3 s3 hdr hfu
  go_enter Try.func30, Try.ntmps30
  go_wp2
  go_loopw [8] (fun _ wr => ∃ (f : ByteArray → Option Value) (left : ByteArray → Bool) (cnt : Nat), RgS wr (eb x.ref) w2.heap.size (kin { u with E := less1 u.E d s } x.ref) f left cnt ∧ (∀ y v, f y = some v → enF u x.ref y = some v) ∧ UB wr p c q (uV u x left) (fun r => (lks (uV u x left) r : Int)) pr m nb eb ∧ Fr (fun k => c k ≠ .no) w wr) (fun _ wr => wr.rangeLeft (eb x.ref) w2.heap.size)
  case atStart => exact H0.out
  case round =>
   obtain ⟨f, left, cnt, hrg, hfv, hub, hfr⟩ := hrel
   have HG := hide hrg
   have HV := hide hfv
   have HU := hide hub
   have HF := hide hfr
   clear hrg hfv hub hfr H0
   go_wp2_with (first
    | (at_next; refine wpList_next_s rfl _ rfl (eb x.ref) w2.heap.size _ _ _ _ rfl HG.out ?_ ?_)
    | go_in)
   ·intro hl
    have hnV := uV_nd HWf.out (e := x) (left := left) HN.out.1 (.inr (.inl rfl))
    obtain ⟨w7, r7, h7, f7, s7⟩ := HU.out.delN hnV hr 0
    have hc7 := HU.out.c2
    have HFin : Hid (UB w7 p c q (drop u x) (fun r => (lks (drop u x) r : Int)) pr m nb eb ∧ Fr (fun k => c k ≠ .no) w w7) := by
     refine ⟨?_, HF.out.trans f7 (fun k _ hk => by rw [hk]; intro e; cases e)⟩
     rw [← uV_end HWf.out HX.out HKx.out hl]
     exact h7
    clear h7 f7 s7 hl hnV
    go_wp2
    go_end0
    exact ⟨rfl, HFin.out⟩
   ·intro y vv w5 cnt2 hy hly hfy hrg2 hlt hg2 hs2 hen
    have f5 : Fr (fun k => k = w2.heap.size) wr w5 := Fr.of_grown hg2 (fun k e => by cases e; rfl)
    have hU5 := HU.out.fr f5 (fun k hk e => hk (by rw [e]; exact HC.out))
    have hF5 : Fr (fun k => c k ≠ .no) w w5 := HF.out.trans f5 (fun k hk e => by have := HS2.out; omega)
    have hen' : ∃ e', en u x.ref y = some e' := by
     have := HV.out y vv hfy
     unfold enF at this
     cases h : en u x.ref y with
     | none => rw [h] at this; cases this
     | some e' => exact ⟨e', rfl⟩
    obtain ⟨e', he'⟩ := hen'
    obtain ⟨e1, e2, e3⟩ := en_some he'
    have hw4 := HWh.out e' e1 e2
    obtain ⟨n2, hn2⟩ := HWf.out.ndr e1
    have hm' : e' ∈ EV u x left := mem_EV.2 ⟨e1, fun q => HWf.out.ne_dir HX.out HKx.out (q.1.symm.trans e2), fun _ => by rw [e3]; exact hly⟩
    have hLf := uleaf_any hU5 (uV_nd HWf.out (e := x) (left := left) HN.out.1 (.inr (.inl rfl))) HN.out.2 (uV_en HWf.out HX.out HKx.out hly he') (uV_nd HWf.out hn2 (.inr (.inr ⟨e', hm', rfl⟩))) (fun z => by rw [knd_some hn2] at hw4; rw [hw4] at z; cases z) (HWf.out.ref e' e1).1 hy (by
     have h1 : (EV u x left).length ≤ (less1 u.E x.dir x.nam).length := List.length_filter_le _ _
     have h2 : (less1 u.E x.dir x.nam).length ≤ u.E.length := List.length_filter_le _ _
     have := HSm.out.2.1
     show (EV u x left).length ≤ 100000
     omega) (sm_ref HWf.out HSm.out hn2)
    have est := uV_step HWf.out HX.out HKx.out hly he' hw4
    rw [← est] at hLf
    have HLf := hide hLf
    have HG5 := hide hrg2
    have HF5 := hide hF5
    have HLt : Hid (cnt2 < wr.rangeLeft (eb x.ref) w2.heap.size) := by show _ < _; rw [HG.out.left_eq]; exact hlt
    have HV5 := hide HV.out
    clear f5 hU5 hF5 hLf est hm' hrg2 hlt hg2 hs2 he' hn2 hw4 e1 e2 e3 hfy HV HU HF HG
    go_wp2_with fail
    refine HLf.out.mono ?_
    rintro e w6 ⟨rfl, k1, k2, k3⟩
    obtain ⟨cnt3, g6, hle⟩ := k3 _ _ _ _ _ HC.out HG5.out
    have el : (fun z => (left z && !decide (z = y)) && !decide (z = y)) = (fun z => left z && !decide (z = y)) := by
     funext z; cases left z <;> cases decide (z = y) <;> rfl
    rw [el] at g6
    have HR : Hid ((∃ (f : ByteArray → Option Value) (left : ByteArray → Bool) (cnt : Nat), RgS w6 (eb x.ref) w2.heap.size (kin { u with E := less1 u.E d s } x.ref) f left cnt ∧ (∀ y v, f y = some v → enF u x.ref y = some v) ∧ UB w6 p c q (uV u x left) (fun r => (lks (uV u x left) r : Int)) pr m nb eb ∧ Fr (fun k => c k ≠ .no) w w6) ∧ w6.rangeLeft (eb x.ref) w2.heap.size < wr.rangeLeft (eb x.ref) w2.heap.size) := by
     refine ⟨⟨_, _, cnt3, g6, fun z v hz => ?_, k1, HF5.out.then k2⟩, ?_⟩
     ·by_cases ez : z = y
      ·rw [if_pos ez] at hz; cases hz
      ·rw [if_neg ez] at hz; exact HV5.out z v hz
     ·rw [g6.left_eq]
      have := HLt.out
      omega
    clear k1 k2 k3 g6 el HLf HG5 HF5 HLt hle
    go_wp2
    exact HR.out
 ·have e1 : leafD u d s x.ref = drop u x := by
   have := leaf_drop hwf x1 (by rw [knd_some hn]; exact hk)
   rw [x2, x3] at this; exact this
  have := uleaf_any h hD hkD hx hn hk h1 hs hsm.2.1 hr
  rw [e1] at this
  refine this.mono ?_
  rintro e w' ⟨h1, h2, h3, _⟩
  exact ⟨h1, h2, h3⟩
end
theorem nd_filter {u : Us} {f : Nod → Bool} {E : List En} {nx : Int} (hi : (u.L.map Nod.ino).Nodup) {r : Int} {n : Nod} (h : nd ⟨u.L.filter f, E, nx⟩ r = some n) : nd u r = some n := by
 obtain ⟨h1, h2⟩ := nd_some h
 have := nd_mem (u := u) hi (List.mem_filter.1 h1).1
 rw [h2] at this; exact this
theorem drop_sub {u : Us} {x : En} (hi : (u.L.map Nod.ino).Nodup) : (∀ e ∈ (drop u x).E, e ∈ u.E) ∧ ∀ r n, nd (drop u x) r = some n → nd u r = some n := by
 unfold drop
 split
 ·exact ⟨fun e he => (mem_less1.1 he).1, fun r n h => h⟩
 ·exact ⟨fun e he => (mem_less1.1 (List.mem_filter.1 he).1).1, fun r n h => nd_filter hi h⟩
set_option maxRecDepth 100000 in
set_option maxHeartbeats 2000000 in
theorem uRemove_any {p : Nat} {c : Nat → Cl} {q : Int × Int} {u : Us} (d : Int) (s : ByteArray) (w : World) (h : Up w p c q u) (hsm : Sm u) (hd : (Lit.int .i64 d).wf = true) (hs : s.size ≤ maxLen) :
  Calls Try.prog 16 #[.pointer (some ⟨p, 0, none⟩), .int .i64 d, .string s] w fun e w' => e = .returned (.int .i64 (rm u d s).1) ∧ Up w' p c q (rm u d s).2 ∧ Fr (fun k => c k ≠ .no) w w' := by
 have HU := hide h
 obtain ⟨pr, m, nb, eb, hB, hwf, hpar⟩ := h
 have HD := hide (udir_any d w hd hB)
 have HSame : Hid (Up w p c q u ∧ Fr (fun k => c k ≠ .no) w w) := ⟨HU.out, Fr.refl _ _⟩
 by_cases hd0 : dirE u d = 0
 ·obtain ⟨n, hn, hk⟩ := dirE_zero.1 hd0
  have e0 : ptrD u nb d = some ⟨nb d, 0, none⟩ := by unfold ptrD; rw [if_pos hd0]
  rw [e0, hd0] at HD
  obtain ⟨_, _, v, hv⟩ := hB.at hn
  have e1 := hv.e
  rw [if_pos hk] at e1
  have l1 := (hB.ents hn hk).look Try.underlying73 (zeroI _) hs
  unfold enF at l1
  cases hx : en u d s with
  | none =>
   have e2 : rm u d s = (20, u) := by unfold rm; rw [if_neg (by rw [hd0]; simp), hx]
   rw [e2]
   rw [hx] at l1
   simp only [Option.map_none, Option.getD_none, Option.isSome_none] at l1
   clear hB hwf hpar hn hk e0 e2 hv hx hd0
   go_enter Try.func16, Try.ntmps16
   go_wp2_with (go_at_call 28; refine HD.out.mono ?_; rintro e w5 ⟨rfl, rfl⟩)
   go_ret
   exact ⟨rfl, HSame.out⟩
  | some x =>
   obtain ⟨x1, x2, x3⟩ := en_some hx
   obtain ⟨n2, hn2⟩ := hwf.ndr x1
   have hr := sm_ref hwf hsm hn2
   rw [hx] at l1
   simp only [Option.map_some, Option.getD_some, Option.isSome_some] at l1
   have c2 := hB.c2
   have l2 := hB.get hr hn2
   have HFu := hide (ufull_any x.ref w hB (fun e he => by obtain ⟨n, hn⟩ := hwf.ndr he; exact ⟨sm_ref hwf hsm hn, n, hn⟩) hn2 (fun hk => hwf.kin0 (by rw [knd_some hn2]; exact hk)))
   have hrm : rm u d s = if fullB u x.ref = true then (26, u) else (0, drop u x) := by
    unfold rm; rw [if_neg (by rw [hd0]; simp), hx]; rfl
   rw [hrm]
   have HUB := hide hB
   have HWf := hide hwf
   have HPar := hide hpar
   have HSm := hide hsm
   cases hfu : fullB u x.ref with
   | true =>
    rw [hfu] at HFu
    simp only [if_true]
    clear hB hwf hpar hn hk e0 hv hx hd0 hn2 hrm x1 x2 x3
    go_enter Try.func16, Try.ntmps16
    go_wp2_with (first
     | (go_at_call 28; refine HD.out.mono ?_; rintro e w5 ⟨rfl, rfl⟩)
     | (go_at_call 29; refine HFu.out.mono ?_; rintro e w6 ⟨rfl, hb6⟩))
    go_ret
    exact ⟨rfl, HU.out.below hb6, Fr.of_below hb6⟩
   | false =>
    rw [hfu] at HFu
    have HDr : Hid (∀ W, Below w.heap.size w W → Calls Try.prog 30 #[.pointer (some ⟨p, 0, none⟩), .pointer (some ⟨nb d, 0, none⟩), .string s] W fun e w' => e = .returned (.tuple #[]) ∧ Up w' p c q (drop u x) ∧ Fr (fun k => c k ≠ .no) w w') := fun W hW => by
     refine (udrop_any (HUB.out.below hW) HWf.out HSm.out hx hfu).mono ?_
     rintro e w' ⟨k1, k2, k3⟩
     have hdr : (rm u d s).2 = drop u x := by rw [hrm, hfu]; rfl
     have hsub := drop_sub (x := x) HWf.out.ino
     have hnx : (drop u x).nx = u.nx := by unfold drop; split <;> rfl
     refine ⟨k1, ⟨pr, m, nb, eb, by rw [hnx]; exact k2, by rw [← hdr]; exact rm_wf HWf.out d s, fun e he hk => ?_⟩, (Fr.of_below hW).then k3⟩
     refine HPar.out e (hsub.1 e he) ?_
     unfold knd at hk
     cases hz : nd (drop u x) e.ref with
     | none => rw [hz] at hk; cases hk
     | some n =>
      rw [hz] at hk
      rw [knd_some (hsub.2 _ _ hz)]
      exact hk
    simp only [Bool.false_eq_true, if_false]
    clear hB hwf hpar hn hk e0 hv hx hd0 hn2 hrm x1 x2 x3
    go_enter Try.func16, Try.ntmps16
    go_wp2_with (first
     | (go_at_call 28; refine HD.out.mono ?_; rintro e w5 ⟨rfl, rfl⟩)
     | (go_at_call 29; refine HFu.out.mono ?_; rintro e w6 ⟨rfl, hb6⟩; have HDr6 := hide (HDr.out _ hb6))
     | (go_at_call 30; refine HDr6.out.mono ?_; rintro e w7 ⟨rfl, hF⟩))
    go_ret
    exact ⟨rfl, hF⟩
 ·have e2 : rm u d s = (dirE u d, u) := by unfold rm; rw [if_pos hd0]
  have e0 : ptrD u nb d = none := by unfold ptrD; rw [if_neg hd0]
  rw [e2]
  rw [e0] at HD
  have k0 : (dirE u d == 0) = false := by simpa using hd0
  generalize dirE u d = ee at *
  clear hB hwf hpar e0 e2 hd0
  go_enter Try.func16, Try.ntmps16
  go_wp2_with (go_at_call 28; refine HD.out.mono ?_; rintro e w5 ⟨rfl, rfl⟩)
  go_ret
  exact ⟨rfl, HSame.out⟩
end Upr
end Go.Proofs.Ytdobojnokgkbpaa
namespace Go.Proofs.Ytdobojnokgkbpaa
open Go.RowKit Go.Maps
open Nam Tre Tab
open Lz (g)
namespace Upr
end Upr
end Go.Proofs.Ytdobojnokgkbpaa
namespace Go.Proofs.Ytdobojnokgkbpaa
open Go.RowKit Go.Maps
open Nam Tre Tab
open Lz (g)
namespace Upr
theorem mayU_data {n : Nod} (h : mayU n = true) (hk : n.kind = 2) {zs : List Int} (hle : zs.length ≤ 4096) : mayU { n with data := zs } = true := by
 have e : ∀ m : Nod, m.kind = 2 → mayU m = (decide (m.data.length ≤ 4096) && m.target.toList.isEmpty && attrOk m && xsOk m.xs) := fun m hm => by
  unfold mayU
  rw [if_neg (by rw [hm]; decide)]
  unfold may kdOk
  show ((if m.kind = 1 then _ else if m.kind = 2 then _ else _) && attrOk m && xsOk m.xs && !false) = _
  rw [if_neg (by rw [hm]; decide), if_pos hm]
  simp
 rw [e n hk] at h
 rw [e { n with data := zs } hk]
 simp only [Bool.and_eq_true, decide_eq_true_eq] at h ⊢
 exact ⟨⟨⟨hle, h.1.1.2⟩, h.1.2⟩, h.2⟩
end Upr
end Go.Proofs.Ytdobojnokgkbpaa
namespace Go.Proofs.Ytdobojnokgkbpaa
open Go.RowKit Go.Maps
open Nam Tre Tab
open Lz (g)
namespace Upr
theorem step_mapUpdate {w w' : World} {ops : Array Oper} {o : Oper} {a : Act} {K : Act → World → Prop} {Q : Exit → Act → World → Prop} {E : Prop} (hgd : o.guard = none) (t : TypeId) (m k x : Operand) (ho : o.op = .mapUpdate t m k x)
  (vm vk vx : Value) (hm : a.eval m = vm) (hk : a.eval k = vk) (hx : a.eval x = vx) (hrun : (Instr.mapUpdate t vm vk vx).run Try.prog w = .ok () w') (h : K (a.put o.dst undef) w') : if Region.wanted o (yielded ops a.tmps) = true then Oper.wp Try.prog o a w K Q else E := by
 have hw : Region.wanted o (yielded ops a.tmps) = true := by simp [Region.wanted, hgd]
 rw [if_pos hw]
 unfold Oper.wp
 simp [execOp, ho, hm, hk, hx, hrun, Result.andThen]
 exact h
def colN (c : Nat → Cl) (lo b : Nat) (r : Int) (dir : Bool) (k : Nat) : Cl := if k = b then .nod r else if k = b + 1 ∧ dir = true then .ent r else if lo ≤ k ∧ k < b then .dat else c k
theorem colN_old {c : Nat → Cl} {lo b : Nat} {r : Int} {dir : Bool} {k : Nat} (h : k < lo) (hb : lo ≤ b) : colN c lo b r dir k = c k := by
 unfold colN
 rw [if_neg (by omega), if_neg (by omega), if_neg (by omega)]
theorem colN_dat {c : Nat → Cl} {lo b : Nat} {r : Int} {dir : Bool} {k : Nat} (h : newc lo b k = .dat) : colN c lo b r dir k = .dat := by
 obtain ⟨h1, h2⟩ := newc_dat.1 h
 unfold colN
 rw [if_neg (by omega), if_neg (by omega), if_pos ⟨h1, h2⟩]
theorem mk_fin {w4 w5 : World} {p : Nat} {c : Nat → Cl} {a1 a2 : Int} {u : Us} {pr : Int → Int} {m : Nat} {nb eb : Int → Nat} (h : UB w4 p c (a1, a2, u.nx) u (fun r => (lks u r : Int)) pr m nb eb) (hwf : Wf u) (hpar : ∀ e ∈ u.E, knd u e.ref = 1 → pr e.ref = e.dir) (hsm : Sm u)
  {d : Int} {s : ByteArray} {n : Nod} {b : Nat} {pv : Pv} (hf : frs u d s = 0) (hmy : mayU n = true) (hM : Made w4 w5 b n d pv) (hs : s.size ≤ maxLen) :
  ∃ w6, (Instr.mapUpdate 66 (.map (some m)) (.int .i64 u.nx) (.pointer (some ⟨b, 0, none⟩))).run Try.prog w5 = .ok () w6 ∧ (w6.cell? ⟨p, 2, none⟩ = some (.map (some m)) ∧ w6.cell? ⟨p, 3, none⟩ = some (.int .i64 u.nx) ∧ Fr (fun k => c k ≠ .no) w4 w6) ∧ w6.cell? ⟨nb d, 11, none⟩ = some (.map (some (eb d))) ∧
   ∃ w7, (Instr.mapUpdate 73 (.map (some (eb d))) (.string s) (.int .i64 u.nx)).run Try.prog w6.drew = .ok () w7 ∧ w7.cell? ⟨p, 3, none⟩ = some (.int .i64 u.nx) ∧
    ∃ c', Up w7 p c' (a1, a2) (mk u d s n).2 ∧ Fr (fun k => c k ≠ .no) w4 w7 ∧ Ext c c' w4 := by
 obtain ⟨⟨nD, hnD, hkD⟩, hvs, hen⟩ := frs_zero hf
 have hmk : (mk u d s n).2 = ⟨u.L ++ [{ n with names := [], opq := false, ino := u.nx }], u.E ++ [⟨d, s, u.nx⟩], u.nx + 1⟩ := by
  unfold mk; rw [if_neg (by rw [hf]; simp), if_neg (by rw [hmy]; simp)]
 have hdn : d ≠ u.nx := fun e => by rw [e, hwf.nxk] at hnD; cases hnD
 have hpos := hwf.pos
 have h5 := h.below hM.bel
 obtain ⟨c', hc'⟩ : ∃ c', c' = colN c w4.heap.size b u.nx (decide (n.kind = 1)) := ⟨_, rfl⟩
 have hold : ∀ k, k < w4.heap.size → c' k = c k := fun k hk => by rw [hc']; exact colN_old hk hM.lo
 have h5c : UB w5 p c' (a1, a2, u.nx) u (fun r => (lks u r : Int)) pr m nb eb := by
  refine h5.recol (fun k hk => hold k (h.low k hk)) (fun k hk => ?_)
  rw [hc'] at hk
  unfold colN at hk
  split at hk
  ·rename_i e; rw [e]; exact hM.hi
  ·split at hk
   ·rename_i e
    have hk1 : n.kind = 1 := by simpa using e.2
    rw [e.1]; exact (hM.mp hk1).lt
   ·split at hk
    ·rename_i e; have := hM.hi; omega
    ·have := h.low k hk; have := hM.bel.size; omega
 obtain ⟨w6, r6, h6, f6⟩ := h5c.addN (n := { n with names := [], opq := false, ino := u.nx }) (b := b) (e0 := b + 1) (v := pv) (d := d) rfl (mayU_set hmy _ _ _) hsm.1 (wf_i64 (by omega) (by have := hsm.2.2; omega)) (by omega) (by rw [hc']; unfold colN; rw [if_pos rfl])
  (by
   have := hM.nb.col (c' := c') (fun k hk => by rw [hc']; exact colN_dat hk)
   exact ⟨this.box, this.data, this.dcol, this.dc, this.dcm, this.dnil, this.xs, this.xc, this.xcm, this.xnil⟩)
  (fun hk => ⟨hM.mp hk, by rw [hc']; unfold colN; rw [if_neg (by omega), if_pos ⟨rfl, by simpa using hk⟩]⟩)
  (hwf.kin0 (by unfold knd; rw [hwf.nxk]; decide)) (fun y => hwf.nxe y)
 have ndu : ∀ x, x ≠ u.nx → nd ⟨u.L ++ [{ n with names := [], opq := false, ino := u.nx }], u.E, u.nx + 1⟩ x = nd u x := fun x hx => by
  unfold nd
  rw [List.find?_append, List.find?_cons_of_neg (by simpa using Ne.symm hx)]
  simp
 have hnD6 := (ndu d hdn).trans hnD
 have h6d : UB w6.drew p c' _ _ _ _ _ _ _ := h6.drewN 1
 obtain ⟨w7, r7, h7, f7⟩ := h6d.putE hnD6 hkD hen hs hsm.2.1 u.nx
 rw [if_neg hdn] at r7
 have low : ∀ k, k < w4.heap.size → ∀ x, c' k = x → x ≠ .no → c k ≠ .no := fun k hk x h1 h2 => by rw [← hold k hk, h1]; exact h2
 have fb : Fr (fun k => c k ≠ .no) w4 w6 := (Fr.of_below hM.bel).trans f6 (fun k hk hx => low k hk _ hx (by intro e; cases e))
 refine ⟨w6, r6, ⟨h6.c2, h6.c3, fb⟩, ?_, w7, r7, h7.c3, c', ?_, ?_, hold⟩
 ·obtain ⟨_, _, v, hv⟩ := h6.at hnD6
  have := hv.e
  rw [if_pos hkD, if_neg hdn, if_neg hdn] at this
  exact this
 ·rw [hmk]
  refine ⟨fun x => if x = u.nx then d else pr x, m, fun x => if x = u.nx then b else nb x, fun x => if x = u.nx then b + 1 else eb x, ?_, by rw [← hmk]; exact mk_wf hwf d s n, ?_⟩
  ·have e1 : (u.nx + 1 - 1 : Int) = u.nx := by omega
   show UB w7 p c' (a1, a2, u.nx + 1 - 1) _ _ _ m _ _
   rw [e1]
   refine h7.lks (fun x hx => ?_) (fun _ _ _ => rfl)
   show (if x.ino = u.nx then (1 : Int) else (lks u x.ino : Int)) = _
   have e := lks_snoc (u := u) d s u.nx x.ino (u.L ++ [{ n with names := [], opq := false, ino := u.nx }]) (u.nx + 1)
   show _ = ((lks (⟨u.L ++ [{ n with names := [], opq := false, ino := u.nx }], u.E ++ [⟨d, s, u.nx⟩], u.nx + 1⟩ : Us) x.ino : Nat) : Int)
   rw [e]
   by_cases ex : x.ino = u.nx
   ·rw [if_pos ex, if_pos ⟨by omega, ex⟩, ex, lks_nx hwf]; rfl
   ·rw [if_neg ex, if_neg (fun z => ex z.2)]
  ·intro e he hk
   show (if e.ref = u.nx then d else pr e.ref) = e.dir
   rcases List.mem_append.1 he with q | q
   ·have ne := hwf.nxr e q
    rw [if_neg ne]
    refine hpar e q ?_
    have : knd ⟨u.L ++ [{ n with names := [], opq := false, ino := u.nx }], u.E ++ [⟨d, s, u.nx⟩], u.nx + 1⟩ e.ref = knd u e.ref := by
     unfold knd
     rw [show nd ⟨u.L ++ [{ n with names := [], opq := false, ino := u.nx }], u.E ++ [⟨d, s, u.nx⟩], u.nx + 1⟩ e.ref = nd u e.ref from ndu e.ref ne]
    rw [this] at hk; exact hk
   ·rw [List.mem_singleton.1 q]
    show (if u.nx = u.nx then d else pr u.nx) = d
    rw [if_pos rfl]
 ·exact fb.trans ((show Fr _ w6.drew w7 from f7).undrew) (fun k hk hx => low k hk _ hx (by intro e; cases e))
set_option maxRecDepth 100000 in
set_option maxHeartbeats 2000000 in
theorem uMake_any {p : Nat} {c : Nat → Cl} {q : Int × Int} {u : Us} (d : Int) (s : ByteArray) (v : Nv) (n : Nod) (w : World) (h : Up w p c q u) (hsm : Sm u) (hr : (Lit.int .i64 d).wf = true) (hs : s.size ≤ maxLen) (hv : ∀ W, Fr (fun k => c k ≠ .no) w W → Rep W v n) :
  Calls Try.prog 9 #[.pointer (some ⟨p, 0, none⟩), .int .i64 d, .string s, .agg v.cells] w fun e w' => e = .returned (.tuple #[.int .i64 (mk u d s n).1.1, .int .i64 (mk u d s n).1.2]) ∧ ∃ c', Up w' p c' q (mk u d s n).2 ∧ Fr (fun k => c k ≠ .no) w w' ∧ Ext c c' w := by
 have HU := hide h
 obtain ⟨pr, m, nb, eb, hB, hwf, hpar⟩ := h
 obtain ⟨Vc, hVc⟩ : ∃ Vc, Vc = v.cells := ⟨_, rfl⟩
 rw [← hVc]
 have HVc := hide hVc
 obtain ⟨w1, hw1⟩ : ∃ w1, w1 = w.alloc (.cells Vc 28) := ⟨_, rfl⟩
 have b1 : Below w.heap.size w w1 := by rw [hw1]; exact below_one _ _
 have hbx : w1.heap[w.heap.size]? = some (.cells Vc 28 (0, 0)) := by rw [hw1]; exact heap_new rfl
 have hB1 := hB.below b1
 have HPl := hide (uplace_any d s w1 hB1 hr hs)
 have HB1 := hide b1
 have HBx : Hid (∀ wX, Below w1.heap.size w1 wX → wX.heap[w.heap.size]? = some (.cells Vc 28 (0, 0))) := fun wX hX => (hX.block _ (heap_lt hbx)).trans hbx
 have HUB := hide hB1
 have HWf := hide hwf
 have HPar := hide hpar
 have HSm := hide hsm
 have HRp := hide hv
 have hnx : u.nx ≤ 100000 := hsm.2.2
 have hnp := hwf.pos
 have HVs : Hid (Vc.size = 10) := by show _ = _; rw [hVc]; rfl
 clear hB hwf hpar hB1 b1 hbx hsm hv hVc
 by_cases hf : frs u d s = 0
 ·have e0 : ptrD u nb d = some ⟨nb d, 0, none⟩ := by
   unfold ptrD; rw [if_pos]
   have := frs_zero hf
   exact dirE_zero.2 this.1
  rw [hf, e0] at HPl
  have HF := hide hf
  clear e0
  by_cases hm : mayU n = true
  ·have e1 : (mk u d s n).1 = (u.nx, 0) := by unfold mk; rw [if_neg (by rw [hf]; simp), if_neg (by rw [hm]; simp)]
   rw [e1]
   have HM := hide hm
   subst hw1
   clear hf hm e1
   go_enter Try.func9, Try.ntmps9
   go_wp2_with fail
   refine HPl.out.mono ?_
   rintro e w2 ⟨rfl, hb2⟩
   have HX2 := hide (HBx.out w2 hb2)
   have HB2 := hide hb2
   have HMy := hide (umay_any v n w2 (HRp.out w2 (Fr.of_below (HB1.out.trans (hb2.mono HB1.out.size)))))
   rw [← HVc.out, HM.out] at HMy
   clear hb2 HPl
   go_wp2_with (first
    | (refine wpList_load_row rfl _ _ rfl w.heap.size rfl 28 Vc (0, 0) _ HX2.out Try.underlying28 rfl (by rw [HVs.out]; exact uinfoNode) ?_))
   refine HMy.out.mono ?_
   rintro e w3 ⟨rfl, hb3⟩
   have HB3 := hide (HB2.out.trans (hb3.mono HB2.out.size))
   have h3 := HUB.out.below HB3.out
   obtain ⟨h4, f4⟩ := h3.last u.nx
   have HX3 := hide (HBx.out w3 HB3.out)
   have c3 := h3.c3
   have g3 := h3.f3 3
   have HU4 := hide h4
   have HF4 := hide f4
   have i1 : IntKind.i64.wrap (u.nx - 1 + 1) = u.nx := by rw [IntKind.wrap_i64]; omega
   have HX4 : Hid ((w3.setCell ⟨p, 3, none⟩ (.int .i64 u.nx)).heap[w.heap.size]? = some (.cells Vc 28 (0, 0))) := (f4.block _ (heap_lt HX3.out) (fun hx => by have := HU.out.low _ (by rw [hx]; intro e; cases e); omega)).trans HX3.out
   clear hb3 h3 h4 f4 HMy HX2
   go_wp2_with fail
   obtain ⟨w4, hw4⟩ : ∃ w4, w4 = w3.setCell ⟨p, 3, none⟩ (.int .i64 u.nx) := ⟨_, rfl⟩
   rw [← hw4] at HU4 HF4 HX4 ⊢
   have HF40 : Hid (Fr (fun k => c k ≠ .no) w w4) := (Fr.of_below (HB1.out.trans (HB3.out.mono HB1.out.size))).trans HF4.out (fun k _ hk => by rw [hk]; intro e; cases e)
   have HMd : Hid (∀ W, Below w4.heap.size w4 W → Calls Try.prog 21 #[.agg v.cells, .int .i64 d] W fun e w' => ∃ b pv, e = .returned (.pointer (some ⟨b, 0, none⟩)) ∧ Made W w' b n d pv) := fun W hW => by
    obtain ⟨m1, m2, m3, m4, _⟩ := may_small HM.out
    exact umade_any v n d W (HRp.out W (HF40.out.then (Fr.of_below hW))) ⟨by omega, by omega, fun x hx => by have := (m4 x hx).2; omega⟩
   rw [← HVc.out] at HMd
   have HCs : Hid (∀ W, Below w4.heap.size w4 W → W.cell? ⟨p, 2, none⟩ = some (.map (some m)) ∧ W.cell? ⟨p, 3, none⟩ = some (.int .i64 u.nx) ∧ W.heap[w.heap.size]? = some (.cells Vc 28 (0, 0))) := fun W hW => by
    have := HU4.out.below hW
    exact ⟨this.c2, this.c3, (hW.block _ (heap_lt HX4.out)).trans HX4.out⟩
   clear hw4 c3 g3
   refine wp_region_held_drew (S := fun wX => wX.cell? ⟨p, 2, none⟩ = some (.map (some m)) ∧ wX.cell? ⟨p, 3, none⟩ = some (.int .i64 u.nx) ∧ wX.heap[w.heap.size]? = some (.cells Vc 28 (0, 0))) (by kernel_rfl) (HCs.out _ (below_drewN (Below.refl _ _) 1)) (fun hHeld => ?_)
   refine wpAnyH_take (i := 0) (oi := ⟨some 32, _, _, _, _, _⟩) (v := ?_) rfl (by kernel_rfl) (by kernel_rfl) (by kernel_rfl) (fun _ _ _ h => h) (Or.inl ⟨by rfl, ?_⟩) (by assumption) ?_
   rotate_left
   ·(intro wS hSw; go_simp; try with_reducible rfl)
   try simp only [Act.put, List.setIfInBounds_toArray, List.set_cons_zero, List.set_cons_succ]
   refine wpAnyH_take (i := 1) (oi := ⟨some 33, _, _, _, _, _⟩) (v := ?_) rfl (by kernel_rfl) (by kernel_rfl) (by kernel_rfl) (fun _ _ _ h => h) (Or.inl ⟨by rfl, ?_⟩) (by assumption) ?_
   rotate_left
   ·(intro wS hSw; go_simp; try with_reducible rfl)
   try simp only [Act.put, List.setIfInBounds_toArray, List.set_cons_zero, List.set_cons_succ]
   refine wpAnyH_take (i := 2) (oi := ⟨some 34, _, _, _, _, _⟩) (v := ?_) rfl (by kernel_rfl) (by kernel_rfl) (by kernel_rfl) (fun _ _ _ h => h) (Or.inl ⟨by rfl, ?_⟩) (by assumption) ?_
   rotate_left
   ·(intro wS hSw; go_simp; try with_reducible rfl)
   try simp only [Act.put, List.setIfInBounds_toArray, List.set_cons_zero, List.set_cons_succ]
   refine wpAnyH_take (i := 3) (oi := ⟨some 35, _, _, _, _, _⟩) (v := ?_) rfl (by kernel_rfl) (by kernel_rfl) (by kernel_rfl) (fun _ _ _ h => h) (Or.inl ⟨by rfl, ?_⟩) (by assumption) ?_
   rotate_left
   ·(intro wS hSw; obtain ⟨q2, q3, q4⟩ := hSw; go_simp; try with_reducible rfl)
   try simp only [Act.put, List.setIfInBounds_toArray, List.set_cons_zero, List.set_cons_succ]
   refine wpAnyH_take (i := 4) (oi := ⟨some 36, _, _, _, _, _⟩) (v := ?_) rfl (by kernel_rfl) (by kernel_rfl) (by kernel_rfl) (fun _ _ _ h => h) (Or.inl ⟨by rfl, ?_⟩) (by assumption) ?_
   rotate_left
   ·(intro wS hSw; go_simp; try with_reducible rfl)
   try simp only [Act.put, List.setIfInBounds_toArray, List.set_cons_zero, List.set_cons_succ]
   refine wpAnyH_take (i := 5) (oi := ⟨some 37, _, _, _, _, _⟩) (v := ?_) rfl (by kernel_rfl) (by kernel_rfl) (by kernel_rfl) (fun _ _ _ h => h) (Or.inl ⟨by rfl, ?_⟩) (by assumption) ?_
   rotate_left
   ·(intro wS hSw; go_simp; try with_reducible rfl)
   try simp only [Act.put, List.setIfInBounds_toArray, List.set_cons_zero, List.set_cons_succ]
   refine wpAnyH_take (i := 6) (oi := ⟨some 38, _, _, _, _, _⟩) (v := ?_) rfl (by kernel_rfl) (by kernel_rfl) (by kernel_rfl) (fun _ _ _ h => h) (Or.inl ⟨by rfl, ?_⟩) (by assumption) ?_
   rotate_left
   ·(intro wS hSw; go_simp; try with_reducible rfl)
   try simp only [Act.put, List.setIfInBounds_toArray, List.set_cons_zero, List.set_cons_succ]
   refine wpAnyH_take (i := 7) (oi := ⟨some 39, _, _, _, _, _⟩) (v := ?_) rfl (by kernel_rfl) (by kernel_rfl) (by kernel_rfl) (fun _ _ _ h => h) (Or.inl ⟨by rfl, ?_⟩) (by assumption) ?_
   rotate_left
   ·(intro wS hSw; obtain ⟨q2, q3, q4⟩ := hSw; go_simp; try with_reducible rfl)
   try simp only [Act.put, List.setIfInBounds_toArray, List.set_cons_zero, List.set_cons_succ]
   refine wpAnyH_take (i := 8) (oi := ⟨some 40, _, _, _, _, _⟩) (v := .agg Vc) rfl (by kernel_rfl) (by kernel_rfl) (by kernel_rfl) (fun _ _ _ h => h) (yieldsIf_load_row (by rfl) _ _ rfl w.heap.size rfl Vc (fun w' h' => uload_nod h'.2.2 HVs.out)) (by assumption) ?_
   try simp only [Act.put, List.setIfInBounds_toArray, List.set_cons_zero, List.set_cons_succ]
   refine wpAnyH_take (i := 9) (oi := ⟨some 41, _, _, _, _, _⟩) (v := ?_) rfl (by kernel_rfl) (by kernel_rfl) (by kernel_rfl) (fun _ _ _ h => h) (Or.inl ⟨by rfl, ?_⟩) (by assumption) ?_
   rotate_left
   ·(intro wS hSw; go_simp; try with_reducible rfl)
   try simp only [Act.put, List.setIfInBounds_toArray, List.set_cons_zero, List.set_cons_succ]
   refine wpAnyH_ready (rs := [10]) (by kernel_rfl) (by simp) ?_
   refine AllReadyH.cons (o := ⟨some 42, _, _, _, _, _⟩) rfl (fun K hK => ?_) AllReadyH.nil
   go_simp
   refine (HMd.out _ (below_drewN (Below.refl _ _) 1)).mono ?_
   rintro r w5 ⟨b, pv, rfl, hM⟩
   have hM5 : Made w4 w5 b n d pv := ⟨hM.lo, hM.hi, ⟨hM.bel.os, hM.bel.tape, hM.bel.output, hM.bel.size, hM.bel.block⟩, hM.nb, hM.mp⟩
   have HB5 := hide hM5.bel
   have HFi := hide (mk_fin HU4.out HWf.out HPar.out HSm.out HF.out HM.out hM5 hs)
   refine hK.out _ _ (HCs.out _ HB5.out) (fun hHeld => ?_)
   clear hM hM5
   clear hK K
   try simp only [Act.put, List.setIfInBounds_toArray, List.set_cons_zero, List.set_cons_succ]
   obtain ⟨w6, r6, p6, e6, w7, r7, p7, hfin⟩ := HFi.out
   have HR6 := hide r6
   have HP6 := hide p6
   have HX6 : Hid (w6.heap[w.heap.size]? = some (.cells Vc 28 (0, 0))) := (HP6.out.2.2.block _ (heap_lt HX4.out) (fun hx => by have := HU.out.low _ hx; omega)).trans HX4.out
   have HFin := hide hfin
   clear r6 HFi p6 hfin
   refine wpAnyH_switch (S' := fun wX => wX = w6) (fun wX h => by rw [h]; exact ⟨HP6.out.1, HP6.out.2.1, HX6.out⟩) _ _ _ _ ?_
   refine wpAnyH_ready (rs := [11]) (by kernel_rfl) (by simp) ?_
   refine AllReadyH.cons (o := ⟨none, _, _, _, _, _⟩) rfl (fun K hK => ?_) AllReadyH.nil
   refine step_mapUpdate (by rfl) 66 (.tmp 35) (.tmp 39) (.tmp 42) (by rfl) (.map (some m)) (.int .i64 u.nx) (.pointer (some ⟨b, 0, none⟩)) (by rfl) (by rfl) (by rfl) HR6.out ?_
   refine hK.out _ _ rfl (fun hHeld => ?_)
   clear hK K
   simp only [Act.put]
   refine wpAnyH_done (by kernel_rfl) ?_ _
   clear hHeld HR6 HX6 HB5 HMd HCs HX4
   have p6 := HP6.out.2.1
   go_wp2_with fail
   go_region
   go_wp2
   go_ret2
   obtain ⟨c', k1, k2, k3⟩ := HFin.out
   exact ⟨rfl, c', k1, HF40.out.then k2, fun k hk => k3 k (Nat.lt_of_lt_of_le hk HF40.out.size)⟩
  ·have e1 : (mk u d s n) = ((0, 1), u) := by unfold mk; rw [if_neg (by rw [hf]; simp), if_pos (by simpa using hm)]
   rw [e1]
   have hm' : mayU n = false := by simpa using hm
   have HM := hide hm'
   subst hw1
   clear hf hm hm' e1
   go_enter Try.func9, Try.ntmps9
   go_wp2_with fail
   refine HPl.out.mono ?_
   rintro e w2 ⟨rfl, hb2⟩
   have HX2 := hide (HBx.out w2 hb2)
   have HB2 := hide hb2
   have HMy := hide (umay_any v n w2 (HRp.out w2 (Fr.of_below (HB1.out.trans (hb2.mono HB1.out.size)))))
   rw [← HVc.out, HM.out] at HMy
   clear hb2 HPl
   go_wp2_with (first
    | (refine wpList_load_row rfl _ _ rfl w.heap.size rfl 28 Vc (0, 0) _ HX2.out Try.underlying28 rfl (by rw [HVs.out]; exact uinfoNode) ?_))
   refine HMy.out.mono ?_
   rintro e w3 ⟨rfl, hb3⟩
   have HB3 := hide (HB1.out.trans ((HB2.out.trans (hb3.mono HB2.out.size)).mono HB1.out.size))
   clear hb3 HMy HX2
   go_wp2
   go_ret2
   exact ⟨rfl, c, HU.out.below HB3.out, Fr.of_below HB3.out, Ext.refl _ _⟩
 ·have e1 : (mk u d s n) = ((0, frs u d s), u) := by unfold mk; rw [if_pos hf]
  rw [e1]
  have k0 : (frs u d s == 0) = false := by simpa using hf
  subst hw1
  generalize frs u d s = ee at *
  clear hf e1
  go_enter Try.func9, Try.ntmps9
  go_wp2_with fail
  refine HPl.out.mono ?_
  rintro e w2 ⟨rfl, hb2⟩
  have HB2 := hide (HB1.out.trans (hb2.mono HB1.out.size))
  clear hb2 HPl
  go_wp2
  go_ret2
  exact ⟨rfl, c, HU.out.below HB2.out, Fr.of_below HB2.out, Ext.refl _ _⟩
end Upr
end Go.Proofs.Ytdobojnokgkbpaa
namespace Go.Proofs.Ytdobojnokgkbpaa
open Go.RowKit Go.Maps
open Nam Tre Tab
open Lz (g)
namespace Upr
def v0 : Nv := { nv0 with kind := 1, mode := 493 }
def n0 : Nod := ⟨[], 0, 1, 493, 0, 0, [], ⟨#[]⟩, [], false⟩
theorem rep0 (w : World) : Rep w v0 n0 :=
 ⟨Rs.nil _ _, Nat.le_refl _, by simp [v0, nv0], fun _ => rfl, rfl, by simp [v0, nv0]; decide, rfl, rfl, rfl, rfl, (New.none _).bs, Nat.le_refl _, by simp [v0, nv0], fun _ => rfl, rfl, by show (0 : Nat) ≤ _; omega, XsR.nil _ _, Nat.le_refl _, by simp [v0, nv0], fun _ => rfl, rfl⟩
theorem new_fin {w1 w2 : World} {b : Nat} {pv : Pv} (hM : Made w1 w2 b n0 1 pv) (a1 a2 : Int) :
  ∃ w4, (Instr.mapUpdate 66 (.map (some w2.heap.size)) (.int .i64 1) (.pointer (some ⟨b, 0, none⟩))).run Try.prog (w2.alloc (.map #[] 0)) = .ok () w4 ∧ Below w2.heap.size w2 w4 ∧ w2.heap.size < w4.heap.size ∧
   ∃ c, Up (w4.alloc (.cells #[.int .i64 a1, .int .i64 a2, .map (some w2.heap.size), .int .i64 1] 68)) w4.heap.size c (a1, a2) u0 ∧ ∀ k, k < w1.heap.size → c k = .no := by
 obtain ⟨w4, r4, m4, g4⟩ := (MpI.new w2).store Try.underlying66 (x := 1) (wf_i64 (by decide) (by decide)) (by decide) (.pointer (some ⟨b, 0, none⟩))
 have b4 : Below w2.heap.size w2 w4 := (below_one w2 _).grown g4 (by simp) (fun k e => by cases e; exact Nat.le_refl _)
 have s4 : w2.heap.size < w4.heap.size := by have := g4.size; simp at this; omega
 obtain ⟨W, hW⟩ : ∃ W, W = w4.alloc (.cells #[.int .i64 a1, .int .i64 a2, .map (some w2.heap.size), .int .i64 1] 68) := ⟨_, rfl⟩
 have bW : Below w4.heap.size w4 W := by rw [hW]; exact below_one _ _
 have b2W : Below w2.heap.size w2 W := b4.trans (bW.mono b4.size)
 have hmp := hM.mp rfl
 have hb1 := hmp.lt
 have hlo := hM.lo
 have hhi := hM.hi
 have sW : W.heap.size = w4.heap.size + 1 := by rw [hW]; simp
 obtain ⟨c, hc⟩ : ∃ c : Nat → Cl, c = fun k => if k = w4.heap.size then .up else if k = w2.heap.size then .nds else colN (fun _ => .no) w1.heap.size b 1 true k := ⟨_, rfl⟩
 have cN : ∀ k, k < w2.heap.size → c k = colN (fun _ => .no) w1.heap.size b 1 true k := fun k hk => by rw [hc]; show (if _ then _ else _) = _; rw [if_neg (by omega), if_neg (by omega)]
 have hb : c b = .nod 1 := by rw [cN b hhi]; unfold colN; rw [if_pos rfl]
 have he : c (b + 1) = .ent 1 := by rw [cN _ hb1]; unfold colN; rw [if_neg (by omega), if_pos ⟨rfl, rfl⟩]
 refine ⟨w4, r4, b4, s4, c, ?_⟩
 rw [← hW]
 refine ⟨⟨fun _ => 1, w2.heap.size, fun _ => b, fun _ => b + 1, ?_, u0_wf, fun e he => by simp [u0] at he⟩, fun k hk => ?_⟩
 ·refine ⟨by rw [hW]; exact heap_new rfl, by rw [hc]; show (if _ then _ else _) = _; rw [if_pos rfl], by rw [hc]; show (if _ then _ else _) = _; rw [if_neg (by omega), if_pos rfl], ?_, ?_, ?_, ?_, ?_, ?_, u0_wf.ino, u0_wf.rng, u0_wf.key, u0_wf.may⟩
  ·refine (show MpI w4 _ 1 _ from m4).same (bW.block _ (by omega)) |>.of (fun x => ?_)
   unfold ndF nd u0
   by_cases e : x = 1
   ·subst e; rfl
   ·rw [if_neg e, List.find?_cons_of_neg (by simpa using Ne.symm e)]; rfl
  ·intro n hn
   obtain rfl := List.mem_singleton.1 hn
   refine ⟨pv, ?_⟩
   have h1 := hM.nb.fr (S := fun _ => False) (Fr.of_below b2W) (fun h => h) (fun _ _ h => h)
   have h2 := h1.col (c' := c) (fun k hk => by
    have := (newc_dat.1 hk)
    rw [cN k (by omega)]
    exact colN_dat hk)
   exact ⟨h2.box, h2.data, h2.dcol, h2.dc, h2.dcm, h2.dnil, h2.xs, h2.xc, h2.xcm, h2.xnil⟩
  ·intro n hn
   obtain rfl := List.mem_singleton.1 hn
   exact hb
  ·intro n hn _
   obtain rfl := List.mem_singleton.1 hn
   exact (hmp.same (b2W.block _ hb1)).of (fun x => by unfold enF en u0; rfl)
  ·intro n hn _
   obtain rfl := List.mem_singleton.1 hn
   exact he
  ·intro k hk
   rw [hc] at hk
   simp only at hk
   split at hk
   ·omega
   ·split at hk
    ·omega
    ·unfold colN at hk
     split at hk
     ·omega
     ·split at hk
      ·omega
      ·split at hk
       ·omega
       ·exact absurd rfl hk
 ·have := hM.bel.size
  rw [cN k (by omega)]
  exact colN_old hk hlo
set_option maxRecDepth 100000 in
set_option maxHeartbeats 1000000 in
theorem uNew_any (a1 a2 : Int) (w : World) :
  Calls Try.prog 7 #[.agg #[.int .i64 a1, .int .i64 a2]] w fun e w' => ∃ p c, e = .returned (.pointer (some ⟨p, 0, none⟩)) ∧ Up w' p c (a1, a2) u0 ∧ Below w.heap.size w w' ∧ ∀ k, k < w.heap.size → c k = .no := by
 obtain ⟨w1, hw1⟩ : ∃ w1, w1 = w.alloc (.cells #[.int .i64 a1, .int .i64 a2] 33) := ⟨_, rfl⟩
 have b1 : Below w.heap.size w w1 := by rw [hw1]; exact below_one _ _
 have hbx : w1.heap[w.heap.size]? = some (.cells #[.int .i64 a1, .int .i64 a2] 33 (0, 0)) := by rw [hw1]; exact heap_new rfl
 have HM := hide (umade_any v0 n0 1 w1 (rep0 _) ⟨by decide, by decide, fun x hx => by simp [n0] at hx⟩)
 have HBx : Hid (∀ wX, Below w1.heap.size w1 wX → wX.cell? ⟨w.heap.size, 0, none⟩ = some (.int .i64 a1) ∧ wX.cell? ⟨w.heap.size, 1, none⟩ = some (.int .i64 a2)) := fun wX hX => by
  have := (hX.block _ (heap_lt hbx)).trans hbx
  simp [World.cell?, this]
 have HB1 := hide b1
 have mkm : ∀ w' : World, (Instr.makeMap 66 none).run Try.prog w' = .ok (.map (some w'.heap.size)) (w'.alloc (.map #[] 0)) := fun w' => by simp [Instr.makeMap, Result.andThen]
 clear b1 hbx
 subst hw1
 go_enter Try.func7, Try.ntmps7
 go_wp2_with fail
 refine HM.out.mono ?_
 rintro e w2 ⟨b, pv, rfl, hM⟩
 obtain ⟨y0, y1⟩ := HBx.out w2 hM.bel
 obtain ⟨w4, r4, b4, s4, c, hup, hno⟩ := new_fin hM a1 a2
 have HF : Hid (Up (w4.alloc (.cells #[.int .i64 a1, .int .i64 a2, .map (some w2.heap.size), .int .i64 1] 68)) w4.heap.size c (a1, a2) u0 ∧ Below w.heap.size w (w4.alloc (.cells #[.int .i64 a1, .int .i64 a2, .map (some w2.heap.size), .int .i64 1] 68)) ∧ ∀ k, k < w.heap.size → c k = .no) := by
  have h2 := HB1.out.trans (hM.bel.mono HB1.out.size)
  have h4 := h2.trans (b4.mono h2.size)
  exact ⟨hup, h4.trans ((below_one w4 _).mono h4.size), fun k hk => hno k (Nat.lt_of_lt_of_le hk HB1.out.size)⟩
 clear hM b4 s4 hup hno HBx HM
 go_wp2
 go_ret
 exact ⟨_, c, rfl, HF.out⟩
end Upr
end Go.Proofs.Ytdobojnokgkbpaa
namespace Go.Proofs.Ytdobojnokgkbpaa
open Go.RowKit Go.Maps
open Nam Tre Tab
open Lz (g)
namespace Upr
structure LS (W0 w : World) (p : Nat) (c : Nat → Cl) (q : Int × Int) (u : Us) (B : List (Nat × Array Value × TypeId)) : Prop where
 up : Up w p c q u
 bel : Below W0.heap.size W0 w
 col : ∀ k, k < W0.heap.size → c k = .no
 box : ∀ x ∈ B, w.heap[x.1]? = some (.cells x.2.1 x.2.2 (0, 0)) ∧ c x.1 = .no ∧ W0.heap.size ≤ x.1
section
variable {W0 w w' : World} {p : Nat} {c c' : Nat → Cl} {q : Int × Int} {u u' : Us} {B : List (Nat × Array Value × TypeId)}
theorem LS.step (h : LS W0 w p c q u B) (hup : Up w' p c' q u') (hf : Fr (fun k => c k ≠ .no) w w') (he : Ext c c' w) : LS W0 w' p c' q u' B := by
 have hs := h.bel.size
 refine ⟨hup, h.bel.trans (hf.below _ hs (fun k hk => ?_)), fun k hk => by rw [he k (by omega)]; exact h.col k hk, fun x hx => ?_⟩
 ·by_cases e : k < W0.heap.size
  ·exact absurd (h.col k e) hk
  ·omega
 ·obtain ⟨h1, h2, h3⟩ := h.box x hx
  exact ⟨(hf.block _ (heap_lt h1) (fun z => z h2)).trans h1, by rw [he _ (heap_lt h1)]; exact h2, h3⟩
theorem LS.below (h : LS W0 w p c q u B) (hb : Below w.heap.size w w') : LS W0 w' p c q u B := h.step (h.up.below hb) (Fr.of_below hb) (Ext.refl _ _)
theorem LS.free (h : LS W0 w p c q u B) {k : Nat} (hk : w.heap.size ≤ k) : c k = .no := by
 by_cases e : c k = .no
 ·exact e
 ·have := h.up.low k e; omega
theorem LS.alloc (h : LS W0 w p c q u B) (cs : Array Value) (t : TypeId) : LS W0 (w.alloc (.cells cs t)) p c q u ((w.heap.size, cs, t) :: B) := by
 have hb := h.below (below_one w (.cells cs t))
 refine ⟨hb.up, hb.bel, hb.col, fun x hx => ?_⟩
 rcases List.mem_cons.1 hx with rfl | hx
 ·exact ⟨heap_new rfl, h.free (Nat.le_refl _), h.bel.size⟩
 ·exact hb.box x hx
theorem LS.at (h : LS W0 w p c q u B) {b : Nat} {cs : Array Value} {t : TypeId} (hx : (b, cs, t) ∈ B) : w.heap[b]? = some (.cells cs t (0, 0)) := (h.box _ hx).1
theorem LS.cell (h : LS W0 w p c q u B) {b : Nat} {cs : Array Value} {t : TypeId} (hx : (b, cs, t) ∈ B) (i : Nat) : w.cell? ⟨b, i, none⟩ = cs[i]? := by
 have := h.at hx
 simp [World.cell?, this]
theorem LS.drop (h : LS W0 w p c q u B) {B' : List (Nat × Array Value × TypeId)} (hs : ∀ x ∈ B', x ∈ B) : LS W0 w p c q u B' := ⟨h.up, h.bel, h.col, fun x hx => h.box x (hs x hx)⟩
theorem LS.old (h : LS W0 w p c q u B) (hf : Fr (fun k => c k ≠ .no) w w') : Below W0.heap.size W0 w' := h.bel.trans (hf.below _ h.bel.size (fun k hk => by
 by_cases e : k < W0.heap.size
 ·exact absurd (h.col k e) hk
 ·omega))
theorem LS.new {a1 a2 : Int} (hW : Below W0.heap.size W0 w) (hup : Up w' p c (a1, a2) u0) (hb : Below w.heap.size w w') (hc : ∀ k, k < w.heap.size → c k = .no) : LS W0 w' p c (a1, a2) u0 [] :=
 ⟨hup, hW.trans (hb.mono hW.size), fun k hk => hc k (Nat.lt_of_lt_of_le hk hW.size), fun x hx => by simp at hx⟩
end
section
variable {w : World} {p : Nat} {c : Nat → Cl} {q : Int × Int} {u : Us}
theorem Up.stat (r : Int) (h : Up w p c q u) (hr : (Lit.int .i64 r).wf = true) (hs : Sm u) :
  Calls Try.prog 10 #[.pointer (some ⟨p, 0, none⟩), .int .i64 r] w fun e w' => e = .returned (.tuple #[.agg (statV u (fun r => (lks u r : Int)) r), .int .i64 (statE u r)]) ∧ Below w.heap.size w w' := by
 have hw := h.wf
 obtain ⟨pr, m, nb, eb, h1, _⟩ := h
 exact uStat_any r w hr h1 hs.2.1 (fun n hn hk => hw.kin0 (by rw [knd_some (nd_mem hw.ino hn)]; exact hk))
theorem Up.xattrs (r : Int) (h : Up w p c q u) (hr : (Lit.int .i64 r).wf = true) :
  Calls Try.prog 11 #[.pointer (some ⟨p, 0, none⟩), .int .i64 r] w fun e w' => ∃ ao' c', e = .returned (.tuple #[.slice ao' (xaV u r).length c', .int .i64 (statE u r)]) ∧ NewX w w' ao' (xaV u r).length c' (xaV u r) := by
 obtain ⟨pr, m, nb, eb, h1, _⟩ := h
 exact uXattrs_any r w hr h1
theorem Up.opq (r : Int) (h : Up w p c q u) (hr : (Lit.int .i64 r).wf = true) :
  Calls Try.prog 13 #[.pointer (some ⟨p, 0, none⟩), .int .i64 r] w fun e w' => e = .returned (.bool ((nd u r).map Nod.opq |>.getD false)) ∧ w' = w := by
 obtain ⟨pr, m, nb, eb, h1, _⟩ := h
 exact uOpaque_any r w hr h1
end
def vF (da : Option Addr) (dn dc : Nat) : Nv := { nv0 with kind := 2, da := da, dn := dn, dc := dc }
def nF (zs : List Int) : Nod := ⟨[], 0, 2, 0, 0, 0, zs, ⟨#[]⟩, [], false⟩
theorem rep_file {w : World} {da : Option Addr} {dn dc : Nat} {zs : List Int} (hb : Bs w da dn zs) (hc : dn ≤ dc) (hm : dc ≤ 9223372036854775807) (hn : da = none → dc = 0) : Rep w (vF da dn dc) (nF zs) :=
 ⟨Rs.nil _ _, Nat.le_refl _, by simp [vF, nv0], fun _ => rfl, rfl, by simp [vF, nv0]; decide, rfl, rfl, rfl, rfl, hb, hc, hm, hn, rfl, by show (0 : Nat) ≤ _; omega, XsR.nil _ _, Nat.le_refl _, by simp [vF, nv0], fun _ => rfl, rfl⟩
theorem may_file {zs : List Int} (h : zs.length ≤ 4096) : mayU (nF zs) = true := mayU_data (n := nF []) (by simp [nF, mayU, may, kdOk, attrOk, xsOk, xs1]) rfl h
theorem val_a : valid (⟨#[97]⟩ : ByteArray).toList = 0 := by rw [toList_mk]; decide
theorem val_b : valid (⟨#[98]⟩ : ByteArray).toList = 0 := by rw [toList_mk]; decide
theorem mk_file {s : ByteArray} (hs : valid s.toList = 0) {zs : List Int} (h : zs.length ≤ 4096) : mk u0 1 s (nF zs) = ((2, 0), s1 (as2 (nF zs)) [s]) := by
 rw [mk_first, if_neg (by rw [hs]; simp), if_neg (by rw [may_file h]; simp)]
theorem sm_s1 (N : Nod) (A : List ByteArray) (h : A.length ≤ 1000) : Sm (s1 N A) := ⟨by simp [s1], by simp [s1]; omega, by simp [s1]⟩
theorem sm_u0 : Sm u0 := ⟨by simp [u0], by simp [u0], by simp [u0]⟩
theorem stat_s1 {N : Nod} (hN : N.ino = 2) (A : List ByteArray) : statV (s1 N A) (fun r => (lks (s1 N A) r : Int)) 2 = #[.int .i64 N.kind, .int .i64 N.mode, .int .i64 N.uid, .int .i64 N.gid, .int .i64 (A.length : Int), .int .i64 ((N.data.length + N.target.size : Nat) : Int)] ∧ statE (s1 N A) 2 = 0 := by
 unfold statV statE
 rw [s1_nd2 hN]
 refine ⟨?_, rfl⟩
 have e : siz (s1 N A) N = N.data.length + N.target.size := by unfold siz; rw [hN, s1_kin, Nat.add_zero]
 show #[_, _, _, _, Value.int .i64 ((lks (s1 N A) 2 : Nat) : Int), Value.int .i64 ((siz (s1 N A) N : Nat) : Int)] = _
 rw [(s1_cnt N A).2, e]
end Upr
end Go.Proofs.Ytdobojnokgkbpaa
namespace Go.Proofs.Ytdobojnokgkbpaa
open Go.RowKit Go.Maps
open Nam Tre Tab
open Lz (g)
namespace Upr
theorem w1 : (Lit.int .i64 1).wf = true := by decide
theorem w2 : (Lit.int .i64 2).wf = true := by decide
theorem sz_ab (x : UInt8) : (⟨#[x]⟩ : ByteArray).size ≤ maxLen := maxl (by show 1 ≤ _; omega)
theorem ln_two {N : Nod} (hN : N.ino = 2) (hk : N.kind ≠ 1) : ln (s1 N [⟨#[97]⟩]) 1 ⟨#[98]⟩ 2 = (0, s1 N [⟨#[97]⟩, ⟨#[98]⟩]) := s1_ln hN hk val_b (by simp)
theorem rm_one {N : Nod} (hN : N.ino = 2) : rm (s1 N [⟨#[97]⟩, ⟨#[98]⟩]) 1 ⟨#[97]⟩ = (0, s1 N [⟨#[98]⟩]) := by
 rw [s1_rm hN (by simp)]
 have : [(⟨#[97]⟩ : ByteArray), ⟨#[98]⟩].filter (fun b => !decide (b = ⟨#[97]⟩)) = [⟨#[98]⟩] := by
  rw [List.filter_cons_of_neg (by simp), List.filter_cons_of_pos (by simp)]; rfl
 rw [this, if_neg (by simp)]
theorem stat_eq (W : World) : (binOp .eql 39 (.agg #[.int .i64 2, .int .i64 0, .int .i64 0, .int .i64 0, .int .i64 1, .int .i64 2]) (.agg #[.int .i64 2, .int .i64 0, .int .i64 0, .int .i64 0, .int .i64 1, .int .i64 2])).run Try.prog W = .ok (.bool true) W := by kernel_rfl
set_option maxRecDepth 100000 in
set_option maxHeartbeats 2000000 in
theorem ushown_any (w : World) : Calls Try.prog 6 #[] w fun e w' => e = .returned (.bool true) ∧ Below w.heap.size w w' := by
 have HN := hide (uNew_any 9 999 w)
 have HW := hide (Below.refl w.heap.size w)
 go_enter Try.func6, Try.ntmps6
 go_wp2_with fail
 refine HN.out.mono ?_
 rintro e w1 ⟨p, c, rfl, hup, hb, hc⟩
 have HL := hide (LS.new HW.out hup hb hc)
 clear hup hb hc HN HW
 have kc := fun (w : World) (C : Array Value) (n c : Nat) => Lib.run_convert_bytes_const (P := Try.prog) w 25 5 C n c Try.underlying25 Try.underlying5
 have HMk : Hid (∀ W, W = w1.alloc (.cells #[.int .u8 104, .int .u8 105] 5 (2, 3)) → LS w W p c (9, 999) u0 [] ∧ Calls Try.prog 9 #[.pointer (some ⟨p, 0, none⟩), .int .i64 1, .string ⟨#[97]⟩, .agg (vF (some ⟨w1.heap.size, 0, none⟩) 2 2).cells] W fun e w' => e = .returned (.tuple #[.int .i64 2, .int .i64 0]) ∧ ∃ c', LS w w' p c' (9, 999) (s1 (as2 (nF [104, 105])) [⟨#[97]⟩]) []) := fun W hW => by
  have hL := HL.out.below (below_one w1 (.cells #[.int .u8 104, .int .u8 105] 5 (2, 3)))
  rw [← hW] at hL
  have hk : W.heap[w1.heap.size]? = some (.cells #[.int .u8 104, .int .u8 105] 5 (2, 3)) := by rw [hW]; exact heap_new rfl
  have hc := HL.out.free (Nat.le_refl w1.heap.size)
  refine ⟨hL, (uMake_any 1 ⟨#[97]⟩ (vF (some ⟨w1.heap.size, 0, none⟩) 2 2) (nF [104, 105]) W hL.up sm_u0 Upr.w1 (sz_ab _) (fun X hX => ?_)).mono ?_⟩
  ·have hx : X.heap[w1.heap.size]? = some (.cells #[.int .u8 104, .int .u8 105] 5 (2, 3)) := (hX.block _ (heap_lt hk) (fun z => z hc)).trans hk
   refine rep_file ⟨rfl, fun i => ?_, .inr ⟨w1.heap.size, 0, rfl, heap_lt hx, fun i hi => ?_⟩⟩ (Nat.le_refl _) (by omega) (fun e => by cases e)
   ·rcases i with _ | _ | i <;> simp [g]
   ·simp only [List.length_cons, List.length_nil] at hi
    have : i = 0 ∨ i = 1 := by omega
    rcases this with rfl | rfl <;> simp [World.cell?, hx, g]
  ·rw [mk_file val_a (by simp)]
   rintro e w' ⟨h1, c', h2, h3, h4⟩
   exact ⟨h1, c', hL.step h2 h3 h4⟩
 go_wp2_with (first
  | (go_at_call 9; refine (HMk.out _ rfl).2.mono ?_))
 rintro e w3 ⟨rfl, c3, hL3⟩
 have HL3 := hide hL3
 clear hL3 HMk HL
 have HN2 := hide (show (as2 (nF [104, 105])).ino = 2 from rfl)
 have HLk := hide (uLink_any 1 ⟨#[98]⟩ 2 w3 HL3.out.up (sm_s1 _ _ (by simp)) Upr.w1 Upr.w2 (sz_ab _))
 rw [ln_two HN2.out (by decide)] at HLk
 go_wp2_with (first
  | (go_at_call 15; refine HLk.out.mono ?_))
 rintro e w4 ⟨rfl, h1, h2⟩
 have HL4 := hide (HL3.out.step h1 h2 (Ext.refl _ _))
 clear h1 h2 HLk HL3
 have HRm := hide (uRemove_any 1 ⟨#[97]⟩ w4 HL4.out.up (sm_s1 _ _ (by simp)) Upr.w1 (sz_ab _))
 rw [rm_one HN2.out] at HRm
 go_wp2_with (first
  | (go_at_call 16; refine HRm.out.mono ?_))
 rintro e w5 ⟨rfl, h1, h2⟩
 have HL5 := hide (HL4.out.step h1 h2 (Ext.refl _ _))
 clear h1 h2 HRm HL4
 have HSt := hide (HL5.out.up.stat 2 Upr.w2 (sm_s1 _ _ (by simp)))
 rw [(stat_s1 HN2.out _).1, (stat_s1 HN2.out _).2] at HSt
 go_wp2_with (first
  | (go_at_call 10; refine HSt.out.mono ?_))
 rintro e w6 ⟨rfl, hb⟩
 have HB := hide (HL5.out.bel.trans (hb.mono HL5.out.bel.size))
 clear hb HSt HL5
 have hse := stat_eq
 go_wp2
 go_ret
 exact ⟨rfl, HB.out.alloc HB.out.size _⟩
end Upr
end Go.Proofs.Ytdobojnokgkbpaa
namespace Go.Proofs.Ytdobojnokgkbpaa
open Go.RowKit Go.Maps
open Nam Tre Tab
open Lz (g)
namespace Upr
theorem wrap_wrap (a b : Int) : wrap64 (wrap64 a + b) = wrap64 (a + b) := by
 unfold wrap64; omega
theorem wrap_wrap2 (a b : Int) : wrap64 (a + wrap64 b) = wrap64 (a + b) := by
 rw [Int.add_comm, wrap_wrap, Int.add_comm]
def csX (xs : List (ByteArray × List Int)) : Nat := (xs.map (fun x => x.1.size + x.2.length)).sum
theorem csX_succ (xs : List (ByteArray × List Int)) (i : Nat) (h : i < xs.length) : csX (xs.take (i + 1)) = csX (xs.take i) + ((gx xs i).1.size + (gx xs i).2.length) := by
 unfold csX
 rw [List.take_succ_eq_append_getElem h, List.map_append, List.sum_append, gx_lt _ _ h]
 simp
def csE (r : Int) (left : ByteArray → Bool) : List En → Nat
 | [] => 0
 | y :: E => (if y.dir = r ∧ left y.nam = false then y.nam.size else 0) + csE r left E
theorem csE_all {r : Int} {left : ByteArray → Bool} : ∀ (E : List En), (∀ y ∈ E, y.dir = r → left y.nam = true) → csE r left E = 0
 | [], _ => rfl
 | y :: E, h => by
  unfold csE
  rw [csE_all E (fun z hz => h z (by simp [hz])), if_neg]
  rintro ⟨h1, h2⟩
  rw [h y (by simp) h1] at h2; cases h2
theorem csE_none {r : Int} {left : ByteArray → Bool} : ∀ (E : List En), (∀ y ∈ E, y.dir ≠ r) → csE r left E = 0
 | [], _ => rfl
 | y :: E, h => by
  unfold csE
  rw [csE_none E (fun z hz => h z (by simp [hz])), if_neg (fun q => h y (by simp) q.1)]
theorem csE_same {r : Int} {x : ByteArray} {left : ByteArray → Bool} : ∀ (E : List En), (∀ y ∈ E, ¬ (y.dir = r ∧ y.nam = x)) → csE r (fun z => left z && !decide (z = x)) E = csE r left E
 | [], _ => rfl
 | y :: E, h => by
  unfold csE
  rw [csE_same E (fun z hz => h z (by simp [hz]))]
  have := h y (by simp)
  by_cases e : y.dir = r
  ·have hx : y.nam ≠ x := fun q => this ⟨e, q⟩
   simp [e, hx]
  ·rw [if_neg (fun q => e q.1), if_neg (fun q => e q.1)]
theorem csE_step {r : Int} {x : ByteArray} {left : ByteArray → Bool} (hl : left x = true) : ∀ (E : List En), E.Pairwise (fun a b => ¬ (a.dir = b.dir ∧ a.nam = b.nam)) → (∃ e ∈ E, e.dir = r ∧ e.nam = x) → csE r (fun z => left z && !decide (z = x)) E = csE r left E + x.size
 | [], _, ⟨_, h, _⟩ => by simp at h
 | y :: E, hp, ⟨e, he, h1, h2⟩ => by
  obtain ⟨hp1, hp2⟩ := List.pairwise_cons.1 hp
  unfold csE
  by_cases q : y.dir = r ∧ y.nam = x
  ·rw [csE_same E (fun z hz hh => hp1 z hz ⟨q.1.trans hh.1.symm, q.2.trans hh.2.symm⟩)]
   rw [if_pos ⟨q.1, by simp [q.2]⟩, if_neg (by rw [q.2, hl]; simp), q.2]
   omega
  ·have he' : e ∈ E := by
    rcases List.mem_cons.1 he with rfl | h
    ·exact absurd ⟨h1, h2⟩ q
    ·exact h
   rw [csE_step hl E hp2 ⟨e, he', h1, h2⟩]
   by_cases e1 : y.dir = r
   ·have hx : y.nam ≠ x := fun z => q ⟨e1, z⟩
    simp [e1, hx]
    omega
   ·rw [if_neg (fun z => e1 z.1), if_neg (fun z => e1 z.1)]
    omega
def cst (u : Us) (n : Nod) : Nat := 64 + n.data.length + n.target.size + csX n.xs + csE n.ino (fun _ => false) u.E
section
variable {p : Nat} {c : Nat → Cl} {q : Int × Int × Int} {u : Us} {lk pr : Int → Int} {m : Nat} {nb eb : Int → Nat}
set_option maxRecDepth 100000 in
set_option maxHeartbeats 2000000 in
theorem ucost_any (r : Int) (w : World) (h : UB w p c q u lk pr m nb eb) {n : Nod} (hn : nd u r = some n) (h0 : n.kind ≠ 1 → kin u r = 0) :
  Calls Try.prog 22 #[.pointer (some ⟨nb r, 0, none⟩)] w fun e w' => e = .returned (.int .i64 (wrap64 (cst u n))) ∧ Below w.heap.size w w' := by
 obtain ⟨n1, n2, v, hv⟩ := h.at hn
 have e1 := hv.e
 have d1 := hv.d
 have x1 := hv.x
 have t1 : w.cell? ⟨nb r, 7, none⟩ = some (.string n.target) := by simp [World.cell?, hv.box, ncs]
 have hdl := hv.data.1
 have hxl := hv.xs.1
 have HX := hide hv.xs.2
 have hxc := hv.xc
 have hxm := hv.xcm
 have HBox : Hid (∀ W, Below w.heap.size w W → W.cell? ⟨nb r, 11, none⟩ = some (.map (if n.kind = 1 then some (eb r) else none))) := fun W hW => (hW.cell (p := ⟨nb r, 11, none⟩) (heap_lt hv.box)).trans e1
 have HH := hide h
 have hc : Hid (cst u n = 64 + n.data.length + n.target.size + csX n.xs + csE r (fun _ => false) u.E) := by show _ = _; unfold cst; rw [n2]
 clear h hv e1
 go_enter Try.func22, Try.ntmps22
 go_wp2
 go_region
 go_wp2
 go_loopw [3, 27] (fun s3 s27 wr => ∃ i : Nat, s3 = .int .i64 (wrap64 ((64 + v.dn + n.target.size + csX (n.xs.take i) : Nat) : Int)) ∧ s27 = .int .i64 i ∧ i ≤ v.xn ∧ Below w.heap.size w wr) (fun _ s27 _ => v.xn - (intOf s27).toNat)
 case atStart =>
  refine ⟨0, ?_, rfl, by omega, below_drewN (Below.refl _ _) 1⟩
  have : csX (n.xs.take 0) = 0 := rfl
  rw [this, wrap_wrap]
  rfl
 case round =>
  obtain ⟨i, rfl, rfl, hi, hb⟩ := hrel
  have HB := hide hb
  by_cases hgo : i < v.xn
  ·have g1 : (i : Int) < v.xn := by omega
   obtain ⟨b, off, hxa, hlt, _, hx⟩ := HX.out.resolve_left (by omega)
   obtain ⟨c1, va, vn, vc, c2, hbs, _⟩ := hx i hgo
   have c3 := (hb.cell (p := ⟨b, off + i * 2, none⟩) hlt).trans c1
   have c4 := (hb.cell (p := ⟨b, off + i * 2 + 1, none⟩) hlt).trans c2
   have hvn := hbs.1
   have HSu := hide (csX_succ n.xs i (by omega))
   rw [hxa] at x1 ⊢
   clear hb hx c1 c2 hbs
   have hT : ((64 + v.dn + n.target.size + csX (n.xs.take (i + 1)) : Nat) : Int) = 64 + v.dn + n.target.size + (csX (n.xs.take i) : Nat) + (((gx n.xs i).1.size : Nat) + vn) := by
    have := HSu.out
    omega
   have HT := hide hT
   clear hT
   go_wp2
   refine ⟨⟨i + 1, ?_, by go_num, by omega, HB.out.alloc HB.out.size _⟩, by simp [intOf]; omega⟩
   rw [wrap_wrap, wrap_wrap2, HT.out]
  ·have HBx := HBox.out wr HB.out
   have hti : n.xs.take i = n.xs := List.take_of_length_le (by omega)
   rw [hti]
   have hcs := hc.out
   by_cases hk : n.kind = 1
   ·rw [if_pos hk] at HBx
    obtain ⟨wo, hwo⟩ : ∃ x, x = wr := ⟨_, rfl⟩
    subst hwo
    obtain ⟨w1, rr, hrg, hg1, hs1⟩ := ((HH.out.below HB.out).ents hn hk).range Try.underlying73
    have HR := hide hrg
    have HB1 : Hid (Below w.heap.size w w1) := HB.out.grown hg1 HB.out.size (fun k e => by cases e)
    have HKey := hide HH.out.key
    have HC0 : Hid (csE r (fun x => (enF u r x).isSome) u.E = 0) := csE_all _ (fun y hy hd => by
     have := en_mem HKey.out hy
     rw [hd] at this
     simp [enF, this])
    have HWr : Hid (w.heap.size ≤ wo.heap.size) := HB.out.size
    obtain ⟨T, hT⟩ : ∃ T, T = 64 + v.dn + n.target.size + csX n.xs := ⟨_, rfl⟩
    rw [← hT]
    rw [hdl, ← hT] at hcs
    have HCs := hide hcs
    clear hrg hg1 hb hcs hT HX
    go_wp2
    go_loopw [3] (fun s3 w2 => ∃ (left : ByteArray → Bool) (cnt : Nat), s3 = .int .i64 (wrap64 ((T + csE r left u.E : Nat) : Int)) ∧ RgS w2 (eb r) wo.heap.size (kin u r) (enF u r) left cnt ∧ Below w.heap.size w w2) (fun _ w2 => w2.rangeLeft (eb r) wo.heap.size)
    case atStart => exact ⟨_, _, by rw [HC0.out, Nat.add_zero], HR.out, HB1.out⟩
    case round =>
     obtain ⟨left, cnt, rfl, hrg, hbr⟩ := hrel
     have HG := hide hrg
     have HB2 := hide hbr
     clear hrg hbr
     go_wp2_with (first
      | (at_next; refine wpList_next_s rfl _ rfl (eb r) wo.heap.size _ _ _ _ rfl HG.out ?_ ?_)
      | go_in)
     ·intro hl
      obtain rfl : left = fun _ => false := funext hl
      clear hl
      go_wp2
      go_ret
      exact ⟨by rw [HCs.out]; rfl, HB2.out⟩
     ·intro x vv w3 cnt2 hx hlx hfx hrg2 hlt hg2 hs2 hen
      have hb3 : Below w.heap.size w w3 := HB2.out.grown hg2 HB2.out.size (fun k e => by cases e; exact HWr.out)
      unfold enF at hfx
      cases hex : en u r x with
      | none => rw [hex] at hfx; cases hfx
      | some e =>
       obtain ⟨x1, x2, x3⟩ := en_some hex
       have HS := hide (csE_step (left := left) hlx u.E HKey.out ⟨e, x1, x2, x3⟩)
       have HB3 := hide hb3
       have HG2 := hide hrg2
       have HM : Hid (w3.rangeLeft (eb r) wo.heap.size < wr.rangeLeft (eb r) wo.heap.size) := by
        show _ < _
        rw [hrg2.left_eq, HG.out.left_eq]; exact hlt
       have HT : Hid (((T + csE r (fun z => left z && !decide (z = x)) u.E : Nat) : Int) = T + (csE r left u.E : Nat) + (x.size : Nat)) := by
        show _ = _
        rw [HS.out]; omega
       clear hb3 hrg2 hg2 hlt hfx hlx
       go_wp2
       refine ⟨⟨_, cnt2, ?_, HG2.out, HB3.out⟩, HM.out⟩
       rw [wrap_wrap, HT.out]
   ·rw [if_neg hk] at HBx
    have HF : Hid (csE r (fun _ => false) u.E = 0) := csE_none _ (fun y hy hd => by
     have := h0 hk
     unfold kin at this
     rw [List.countP_eq_zero] at this
     exact this y hy (by simpa using hd))
    rw [HF.out, Nat.add_zero, hdl] at hcs
    have HCs := hide hcs
    have hrg := run_range_nilMap (P := Try.prog) wr 73 9 3 Try.underlying73
    have hnx : ∀ ty, (Instr.next (.pointer (some ⟨wr.heap.size, 0, none⟩)) false ty).run Try.prog (wr.alloc (.mapIter none 0 #[] 0)) = _ := fun ty => run_next_nilMap wr ty 0 0 #[]
    clear hcs hb h0 hk hn HX
    go_wp2
    refine wp_loop_rounds 1 ?_
    rw [rounds_succ]
    go_wp2
    go_ret
    exact ⟨by rw [HCs.out]; rfl, HB.out.alloc HB.out.size _⟩
end
end Upr
end Go.Proofs.Ytdobojnokgkbpaa
namespace Go.Proofs.Ytdobojnokgkbpaa
open Go.RowKit Go.Maps
open Nam Tre Tab
open Lz (g)
namespace Upr
theorem uinfoQuota : (Try.prog.info? 33).map (fun i => i.size) = some 2 := by kernel_rfl
theorem uload_quota {w : World} {b : Nat} {t : TypeId} {cs : Array Value} {fr : Nat × Nat} (h : w.heap[b]? = some (.cells cs t fr)) (hs : cs.size = 2) : (loadVar 33 ⟨b, 0, none⟩).run Try.prog w = .ok (.agg cs) w :=
 run_loadVar_row w b t 33 cs fr _ h Try.underlying33 rfl (by rw [hs]; exact uinfoQuota)
def csN (u : Us) (left : Int → Bool) : List Nod → Nat
 | [] => 0
 | y :: L => (if left y.ino = false then cst u y else 0) + csN u left L
theorem csN_all {u : Us} {left : Int → Bool} : ∀ (L : List Nod), (∀ y ∈ L, left y.ino = true) → csN u left L = 0
 | [], _ => rfl
 | y :: L, h => by
  unfold csN
  rw [csN_all L (fun z hz => h z (by simp [hz])), if_neg (by rw [h y (by simp)]; simp)]
theorem csN_same {u : Us} {x : Int} {left : Int → Bool} : ∀ (L : List Nod), (∀ y ∈ L, y.ino ≠ x) → csN u (fun z => left z && !decide (z = x)) L = csN u left L
 | [], _ => rfl
 | y :: L, h => by
  unfold csN
  rw [csN_same L (fun z hz => h z (by simp [hz]))]
  simp [h y (by simp)]
theorem csN_step {u : Us} {n : Nod} {left : Int → Bool} (hl : left n.ino = true) : ∀ (L : List Nod), (L.map Nod.ino).Nodup → n ∈ L → csN u (fun z => left z && !decide (z = n.ino)) L = csN u left L + cst u n
 | [], _, h => by simp at h
 | y :: L, hp, h => by
  rw [List.map_cons, List.nodup_cons] at hp
  obtain ⟨hp1, hp2⟩ := hp
  unfold csN
  rcases List.mem_cons.1 h with rfl | h'
  ·rw [csN_same L (fun z hz e => hp1 (by rw [← e]; exact List.mem_map_of_mem hz))]
   rw [if_pos (by simp), if_neg (by rw [hl]; simp)]
   omega
  ·rw [csN_step hl L hp2 h']
   have hne : y.ino ≠ n.ino := fun e => hp1 (by rw [e]; exact List.mem_map_of_mem h')
   simp [hne]
   omega
section
variable {p : Nat} {c : Nat → Cl} {q : Int × Int × Int} {u : Us} {lk pr : Int → Int} {m : Nat} {nb eb : Int → Nat}
set_option maxRecDepth 100000 in
set_option maxHeartbeats 2000000 in
theorem uUsed_any (w : World) (h : UB w p c q u lk pr m nb eb) (h0 : ∀ n ∈ u.L, n.kind ≠ 1 → kin u n.ino = 0) :
  Calls Try.prog 8 #[.pointer (some ⟨p, 0, none⟩)] w fun e w' => e = .returned (.agg #[.int .i64 (u.L.length : Nat), .int .i64 (wrap64 (csN u (fun _ => false) u.L : Nat))]) ∧ Below w.heap.size w w' := by
 have HH := hide h
 have B1 : Below w.heap.size w (w.alloc (.cells #[.int .i64 0, .int .i64 0] 33)) := below_one _ _
 have h1 := h.below B1
 have c21 := h1.c2
 have l1 := h1.map.len Try.underlying66 3
 have HB2 : Hid (Below w.heap.size w ((w.alloc (.cells #[.int .i64 0, .int .i64 0] 33)).alloc (.cells #[.int .i64 (u.L.length : Nat), .int .i64 0] 33))) := B1.alloc B1.size _
 have h2 := h.below HB2.out
 have c22 := h2.c2
 obtain ⟨w3, rr, hrg, hg3, hs3⟩ := h2.map.range Try.underlying66
 have e2 : ((w.alloc (.cells #[.int .i64 0, .int .i64 0] 33)).alloc (.cells #[.int .i64 (u.L.length : Nat), .int .i64 0] 33)).heap.size = w.heap.size + 1 + 1 := by simp
 rw [e2] at rr hrg hs3
 have HB3 : Hid (Below w.heap.size w w3) := HB2.out.grown hg3 HB2.out.size (fun k e => by cases e)
 have hx3 : w3.heap[w.heap.size + 1]? = some (.cells #[.int .i64 (u.L.length : Nat), .int .i64 0] 33 (0, 0)) := by
  rw [hg3.block (w.heap.size + 1) (by rw [e2]; omega) (fun e => by cases e)]
  exact heap_new (by simp)
 have hy3 : w3.heap[w.heap.size]? = some (.cells #[.int .i64 0, .int .i64 0] 33 (0, 0)) := by
  rw [hg3.block w.heap.size (by rw [e2]; omega) (fun e => by cases e)]
  exact ((below_one _ _).block w.heap.size (by simp)).trans (heap_new rfl)
 have HR := hide hrg
 have HX3 := hide hx3
 have HY3 := hide hy3
 have HCst : Hid (∀ W, Below w.heap.size w W → ∀ n ∈ u.L, Calls Try.prog 22 #[.pointer (some ⟨nb n.ino, 0, none⟩)] W fun e w' => e = .returned (.int .i64 (wrap64 (cst u n))) ∧ Below W.heap.size W w') := fun W hW n hn => ucost_any n.ino W (HH.out.below hW) (HH.out.ndd hn) (h0 n hn)
 have HC0 : Hid (csN u (fun x => (ndF u nb x).isSome) u.L = 0) := csN_all _ (fun y hy => by simp [ndF, HH.out.ndd hy])
 clear h h0 hrg hg3 hs3 hx3 hy3 e2 B1 h1 h2
 go_enter Try.func8, Try.ntmps8
 go_wp2
 go_loopw [] (fun wr => ∃ (left : Int → Bool) (cnt : Nat), RgI wr m (w.heap.size + 1 + 1) u.L.length (ndF u nb) left cnt ∧ wr.heap[w.heap.size + 1]? = some (.cells #[.int .i64 (u.L.length : Nat), .int .i64 (wrap64 (csN u left u.L : Nat))] 33 (0, 0)) ∧ wr.heap[w.heap.size]? = some (.cells #[.int .i64 0, .int .i64 0] 33 (0, 0)) ∧ Below w.heap.size w wr) (fun wr => wr.rangeLeft m (w.heap.size + 1 + 1))
 case atStart => exact ⟨_, _, HR.out, by rw [HC0.out, show wrap64 ((0 : Nat) : Int) = 0 from by unfold wrap64; omega]; exact HX3.out, HY3.out, HB3.out⟩
 case round =>
  obtain ⟨left, cnt, hrg, hx, hy, hbr⟩ := hrel
  have HG := hide hrg
  have HX := hide hx
  have HY := hide hy
  have HB := hide hbr
  clear hrg hx hy hbr
  go_wp2_with (first
   | (at_next; refine wpList_next_i rfl _ rfl m (w.heap.size + 1 + 1) _ _ _ _ rfl HG.out ?_ ?_)
   | go_in)
  ·intro hl
   obtain rfl : left = fun _ => false := funext hl
   clear hl
   have k0 : wr.cell? ⟨w.heap.size + 1, 0, none⟩ = some (.int .i64 (u.L.length : Nat)) := by simp [World.cell?, HX.out]
   have k1 : wr.cell? ⟨w.heap.size + 1, 1, none⟩ = some (.int .i64 (wrap64 (csN u (fun _ => false) u.L : Nat))) := by simp [World.cell?, HX.out]
   have k2 : wr.cell? ⟨w.heap.size, 0, none⟩ = some (.int .i64 0) := by simp [World.cell?, HY.out]
   have k3 : wr.cell? ⟨w.heap.size, 1, none⟩ = some (.int .i64 0) := by simp [World.cell?, HY.out]
   have k4 : wr.frozen? ⟨w.heap.size, 0, none⟩ = false := by simp [World.frozen?, HY.out]
   have k5 : wr.frozen? ⟨w.heap.size, 1, none⟩ = false := by simp [World.frozen?, HY.out]
   have hA : ((wr.setCell ⟨w.heap.size, 0, none⟩ (.int .i64 (u.L.length : Nat))).setCell ⟨w.heap.size, 1, none⟩ (.int .i64 (wrap64 (csN u (fun _ => false) u.L : Nat)))).heap[w.heap.size]? = some (.cells #[.int .i64 (u.L.length : Nat), .int .i64 (wrap64 (csN u (fun _ => false) u.L : Nat))] 33 (0, 0)) := by
    rw [heap_setCell_self (heap_setCell_self HY.out _) _]; rfl
   have HA := hide hA
   have HBe : Hid (Below w.heap.size w ((wr.setCell ⟨w.heap.size, 0, none⟩ (.int .i64 (u.L.length : Nat))).setCell ⟨w.heap.size, 1, none⟩ (.int .i64 (wrap64 (csN u (fun _ => false) u.L : Nat))))) := (HB.out.setCell (by exact Nat.le_refl _) _).setCell (by exact Nat.le_refl _) _
   clear hA
   go_wp2
   refine bodyPost_ret (v := .agg #[.int .i64 (u.L.length : Nat), .int .i64 (wrap64 (csN u (fun _ => false) u.L : Nat))]) ?_ rfl ⟨rfl, HBe.out⟩
   exact results_cr1 (p := 2) rfl _ _ w.heap.size _ rfl (uload_quota HA.out rfl)
  ·intro x vv w3 cnt2 hx hlx hfx hrg2 hlt hg2 hs2 hen
   unfold ndF at hfx
   cases hnx : nd u x with
   | none => rw [hnx] at hfx; cases hfx
   | some n =>
    rw [hnx] at hfx
    obtain rfl : Value.pointer (some ⟨nb x, 0, none⟩) = vv := by simpa using hfx
    obtain ⟨n1, n2⟩ := nd_some hnx
    subst n2
    have hb3 : Below w.heap.size w w3 := HB.out.grown hg2 HB.out.size (fun k e => by cases e; omega)
    have hX : w3.heap[w.heap.size + 1]? = some (.cells #[.int .i64 (u.L.length : Nat), .int .i64 (wrap64 (csN u left u.L : Nat))] 33 (0, 0)) := by
     rw [hg2.block (w.heap.size + 1) (heap_lt HX.out) (fun e => by simp at e)]; exact HX.out
    have hY : w3.heap[w.heap.size]? = some (.cells #[.int .i64 0, .int .i64 0] 33 (0, 0)) := by
     rw [hg2.block w.heap.size (heap_lt HY.out) (fun e => by simp at e; omega)]; exact HY.out
    have HC := hide (HCst.out w3.drew (below_drewN hb3 1) n n1)
    have k1 : w3.cell? ⟨w.heap.size + 1, 1, none⟩ = some (.int .i64 (wrap64 (csN u left u.L : Nat))) := by simp [World.cell?, hX]
    have HK : Hid (∀ w9, Below w3.heap.size w3.drew w9 → w9.cell? ⟨w.heap.size + 1, 1, none⟩ = some (.int .i64 (wrap64 (csN u left u.L : Nat))) ∧ w9.frozen? ⟨w.heap.size + 1, 1, none⟩ = false) := fun w9 h9 => by
     have := (h9.block (w.heap.size + 1) (heap_lt hX)).trans hX
     exact ⟨by simp [World.cell?, this], by simp [World.frozen?, this]⟩
    have HS := hide (csN_step (u := u) hlx u.L HH.out.ino n1)
    have HM : Hid (w3.rangeLeft m (w.heap.size + 1 + 1) < wr.rangeLeft m (w.heap.size + 1 + 1)) := by
     show _ < _
     rw [hrg2.left_eq, HG.out.left_eq]; exact hlt
    have HG2 := hide hrg2
    have HX2 := hide hX
    have HY2 := hide hY
    have HB2 := hide hb3
    have HFin : Hid (∀ w9 W, Below w3.heap.size w3.drew w9 → W = w9.setCell ⟨w.heap.size + 1, 1, none⟩ (.int .i64 (IntKind.i64.wrap (wrap64 (csN u left u.L : Nat) + wrap64 (cst u n : Nat)))) →
      (∃ (left : Int → Bool) (cnt : Nat), RgI W m (w.heap.size + 1 + 1) u.L.length (ndF u nb) left cnt ∧ W.heap[w.heap.size + 1]? = some (.cells #[.int .i64 (u.L.length : Nat), .int .i64 (wrap64 (csN u left u.L : Nat))] 33 (0, 0)) ∧ W.heap[w.heap.size]? = some (.cells #[.int .i64 0, .int .i64 0] 33 (0, 0)) ∧ Below w.heap.size w W) ∧ W.rangeLeft m (w.heap.size + 1 + 1) < wr.rangeLeft m (w.heap.size + 1 + 1)) := fun w9 W h9 hW => by
     have hwv : IntKind.i64.wrap (wrap64 (csN u left u.L : Nat) + wrap64 (cst u n : Nat)) = wrap64 (csN u (fun z => left z && !decide (z = n.ino)) u.L : Nat) := by
      rw [HS.out, IntKind.wrap_i64]; unfold wrap64; omega
     rw [hwv] at hW
     have hml := hrg2.mp
     have hmlt : m < w.heap.size := by
      have := HH.out.map.lt
      exact this
     have hm9 : W.heap[m]? = w3.heap[m]? := by
      rw [hW, Below.heap_setCell _ _ _ _ (by show m ≠ w.heap.size + 1; omega)]
      exact h9.block m (Nat.lt_of_lt_of_le hmlt hb3.size)
     have hi9 : W.heap[w.heap.size + 1 + 1]? = w3.heap[w.heap.size + 1 + 1]? := by
      rw [hW, Below.heap_setCell _ _ _ _ (by show w.heap.size + 1 + 1 ≠ w.heap.size + 1; omega)]
      exact h9.block _ hrg2.lt
     have hr := hrg2.same hm9 hi9
     refine ⟨⟨_, cnt2, hr, ?_, ?_, ?_⟩, by rw [hr.left_eq, HG.out.left_eq]; exact hlt⟩
     ·have := (h9.block (w.heap.size + 1) (heap_lt hX)).trans hX
      rw [hW, heap_setCell_self this _]; rfl
     ·rw [hW, Below.heap_setCell _ _ _ _ (by show w.heap.size ≠ w.heap.size + 1; omega)]
      exact (h9.block _ (heap_lt hY)).trans hY
     ·rw [hW]
      exact (hb3.trans (Below.mono (⟨h9.os, h9.tape, h9.output, h9.size, h9.block⟩ : Below w3.heap.size w3 w9) hb3.size)).setCell (by show w.heap.size ≤ w.heap.size + 1; omega) _
    clear hb3 hX hY hrg2 hlt hg2 hs2 hlx hfx
    go_wp2
    go_region_with (go_at_call 22; refine HC.out.mono ?_; rintro e w9 ⟨rfl, h9⟩; obtain ⟨k9, g9⟩ := HK.out w9 h9; have H9 := hide h9; clear h9)
    all_goals
     have HE := hide (HFin.out w9 _ H9.out rfl)
     go_wp2
     exact HE.out
end
end Upr
end Go.Proofs.Ytdobojnokgkbpaa
namespace Go.Proofs.Ytdobojnokgkbpaa
open Go.RowKit Go.Maps
open Nam Tre Tab
open Lz (g)
open Cur
theorem gx_drop (xs : List (ByteArray × List Int)) (i : Nat) (h : i < xs.length) : xs.drop i = gx xs i :: xs.drop (i + 1) := by
 rw [gx_lt xs i h]; exact List.drop_eq_getElem_cons h
set_option maxRecDepth 100000 in
set_option maxHeartbeats 1000000 in
theorem xsSame_any (a b : Option Addr) (n m c d : Nat) (xs ys : List (ByteArray × List Int)) (w : World) (ha : XsR w a n xs) (hb : XsR w b m ys) (hn : n ≤ 1000000) (hm : m ≤ 1000000) (q : Bool) (hq : decide (xs = ys) = q) :
  Calls Try.prog 27 #[.slice a n c, .slice b m d] w fun e w' => e = .returned (.bool q) ∧ ∃ j, w' = w.drewN j := by
 have hl := ha.1
 have hk := hb.1
 by_cases e : n = m
 ·subst e
  have HA := hide ha
  have HB := hide hb
  have HQ : Hid (decide (xs.drop 0 = ys.drop 0) = q) := by rw [List.drop_zero, List.drop_zero]; exact hq
  clear ha hb hq
  go_enter Try.func27, Try.ntmps27
  go_wp2
  go_loopw [5] (fun r wr => ∃ i j : Nat, r = .int .i64 i ∧ i ≤ n ∧ wr = w.drewN j ∧ Hid (decide (xs.drop i = ys.drop i) = q)) (fun r _ => n - (intOf r).toNat)
  case atStart => exact ⟨0, 0, rfl, Nat.zero_le _, rfl, HQ⟩
  case round =>
   obtain ⟨i, j, rfl, hi, rfl, HI⟩ := hrel
   by_cases hp : i < n
   ·obtain ⟨b1, o1, rfl, hb1, hc1⟩ := HA.out.at (by omega)
    obtain ⟨b2, o2, rfl, hb2, hc2⟩ := HB.out.at (by omega)
    obtain ⟨n1, va, vn, vc, v1, B1, _⟩ := hc1 i hp
    obtain ⟨n2, ua, un, uc, v2, B2, _⟩ := hc2 i hp
    have HS1 := hide (gx_drop xs i (by omega))
    have HS2 := hide (gx_drop ys i (by omega))
    have hd : (i : Int) < (n : Int) := by omega
    clear hc1 hc2
    generalize gx xs i = A at *
    generalize gx ys i = C at *
    obtain ⟨an, av⟩ := A
    obtain ⟨cn, cv⟩ := C
    simp only at n1 n2 v1 v2 B1 B2 HS1 HS2
    have s1 : ∀ nq, (convert 25 9 (.slice va vn vc)).run Try.prog (w.drewN nq) = .ok (.string (strOfNums av)) (w.drewN nq) := fun nq => str_any (w := w.drewN nq) B1 vc
    have s2 : ∀ nq, (convert 25 9 (.slice ua un uc)).run Try.prog (w.drewN nq) = .ok (.string (strOfNums cv)) (w.drewN nq) := fun nq => str_any (w := w.drewN nq) B2 uc
    have hs : ∀ x y : ByteArray, (x.toList == y.toList) = decide (x = y) := fun x y => by
     rw [Bool.eq_iff_iff, beq_iff_eq, decide_eq_true_eq]
     exact ⟨toList_inj, fun h => by rw [h]⟩
    have t1 := B1.bytes
    have t2 := B2.bytes
    clear B1 B2
    by_cases h1 : an = cn
    ·subst h1
     by_cases h2 : av = cv
     ·subst h2
      go_wp2
      go_quiet (fail)
      go_wp2
      go_roundw
      case rel => exact ⟨i + 1, _, rfl, by omega, rfl, by show _ = _; have := HI.out; rw [HS1.out, HS2.out] at this; rw [← this]; simp⟩
      case measure => simp [intOf]; omega
     ·have HF : Hid (false = q) := by show _ = _; have := HI.out; rw [HS1.out, HS2.out] at this; rw [← this]; simp [h2]
      have h4 : ((strOfNums av).toList == (strOfNums cv).toList) = false := by
       rw [hs, decide_eq_false]
       intro h
       have := congrArg sb h
       rw [Cap.sb_str t1, Cap.sb_str t2] at this
       exact h2 this
      clear hs t1 t2
      go_wp2
      go_quiet (fail)
      go_wp2
      go_ret
      exact ⟨ret_bool HF.out, dr2 _ _ _⟩
    ·have HF : Hid (false = q) := by show _ = _; have := HI.out; rw [HS1.out, HS2.out] at this; rw [← this]; simp [h1]
     have h4 : (an.toList == cn.toList) = false := by rw [hs, decide_eq_false h1]
     clear hs t1 t2
     go_wp2
     go_quiet (fail)
     go_wp2
     go_ret
     exact ⟨ret_bool HF.out, dr2 _ _ _⟩
   ·obtain rfl : i = n := by omega
    go_wp2
    go_ret
    exact ⟨ret_bool (by have := HI.out; rw [List.drop_of_length_le (by omega), List.drop_of_length_le (by omega)] at this; rw [← this]; simp), j, rfl⟩
 ·have hne : ((n : Int) != (m : Int)) = true := by simp; omega
  have hq' : q = false := by rw [← hq]; simp; intro h; rw [h] at hl; omega
  go_enter Try.func27, Try.ntmps27
  go_wp2
  go_ret
  exact ⟨ret_bool hq'.symm, 0, rfl⟩
end Go.Proofs.Ytdobojnokgkbpaa

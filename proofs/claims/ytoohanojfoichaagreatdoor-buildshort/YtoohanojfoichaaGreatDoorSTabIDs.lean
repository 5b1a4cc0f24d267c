/- What the proof stands on: TabIDs, with what the proof reaches of it. -/
import Derived.Test.YtoohanojfoichaaGreatDoorSJNamRow
import Derived.Test.YtoohanojfoichaaGreatDoorSKeys
import Derived.RangeFuncNested
import Derived.RangeFuncBound
import Derived.RangeFuncCalls
import Derived.RangeFuncLeaves
import Derived.Shelf.Abstract
import Derived.Shelf.RegionOpen
import Derived.WalkKit
import Derived.OwnWalkIn
import Derived.TacticsInMore
import Derived.LoopNIn
import Derived.LoopIn
import Derived.Maps.OwnIn
import Derived.Shelf.SlIterI.Stops
import Derived.Shelf.AbstractIn

/- Layer 11: the owners of nodes, by the program: an iterator over the nodes, a map of numbers, its keys in order. -/
namespace Go.Proofs.YtoohanojfoichaaGreatDoor
set_option linter.unusedVariables false
open Go.RowKit Go.Maps Go.Sort Go.Shelf
open Nam Tre
attribute [local go_sem] Oper.semAt_some

namespace Tab
/-- A number of the kind int. -/
abbrev I64 := { x : Int // (Lit.int .i64 x).wf = true }
def i64 (x : Int) : I64 := if h : (Lit.int .i64 x).wf = true then ⟨x, h⟩ else ⟨0, by decide⟩
theorem i64_val {x : Int} (h : (Lit.int .i64 x).wf = true) : (i64 x).1 = x := by unfold i64; rw [dif_pos h]
/-- Owners, as they come. -/
def us (L : List (Nv × Nod)) : List I64 := L.flatMap fun p => [i64 p.1.uid, i64 p.1.gid]
theorem us_length (L : List (Nv × Nod)) : (us L).length = 2 * L.length := by
  induction L with
  | nil => rfl
  | cons p r ih => simp [us] at ih ⊢; omega
theorem us_take (L : List (Nv × Nod)) (i : Nat) (h : i < L.length) : us (L.take (i + 1)) = (us (L.take i) ++ [i64 (gl L i).1.uid]) ++ [i64 (gl L i).1.gid] := by
  rw [gl_lt L i h, List.take_succ_eq_append_getElem h]
  unfold us
  rw [List.flatMap_append, List.append_assoc]
  rfl
/-- The owners are numbers. -/
def Wf (L : List (Nv × Nod)) : Prop := ∀ p ∈ L, (Lit.int .i64 p.1.uid).wf = true ∧ (Lit.int .i64 p.1.gid).wf = true
theorem Wf.at {L : List (Nv × Nod)} (h : Wf L) (i : Nat) (hi : i < L.length) : (Lit.int .i64 (gl L i).1.uid).wf = true ∧ (Lit.int .i64 (gl L i).1.gid).wf = true := h _ (gl_mem L i hi)
/-- All cells stay as they lay. -/
structure KeepC (W W' : World) : Prop where
  size : W.heap.size ≤ W'.heap.size
  same : ∀ (k : Nat) (o : Obj), W.heap[k]? = some o → o.isCells = true → W'.heap[k]? = some o
theorem KeepC.refl (W : World) : KeepC W W := ⟨Nat.le_refl _, fun _ _ h _ => h⟩
theorem KeepC.trans {A B C : World} (h : KeepC A B) (k : KeepC B C) : KeepC A C := ⟨Nat.le_trans h.size k.size, fun i o hi ho => k.same i o (h.same i o hi ho) ho⟩
theorem KeepC.put {W : World} {l : Nat} {o : Obj} (o' : Obj) (h : W.heap[l]? = some o) (hc : o.isCells = false) : KeepC W (W.putObj l o') :=
  ⟨by simp, fun k o2 hk ho => by
    by_cases e : k = l
    · subst e; rw [h] at hk; cases hk; rw [hc] at ho; cases ho
    · exact (World.putObj_heap_other e).trans hk⟩
theorem KeepC.alloc (W : World) (o : Obj) : KeepC W (W.alloc o) := ⟨by simp, fun k o' hk _ => (Below.heap_alloc W o k (Array.getElem?_eq_some_iff.1 hk).1).trans hk⟩
theorem KeepC.grown {W W' : World} {b : Nat} (hg : W.grownBy W' (some b)) (hb : ∀ o : Obj, W.heap[b]? = some o → o.isCells = false) : KeepC W W' :=
  ⟨hg.size, fun k o hk ho => (hg.block k (Array.getElem?_eq_some_iff.1 hk).1 (fun e => by cases e; rw [hb o hk] at ho; cases ho)).trans hk⟩
theorem KeepC.cell {W W' : World} (h : KeepC W W') {a : Addr} {v : Value} (hc : W.cell? a = some v) : W'.cell? a = some v := by
  obtain ⟨o, ho, hi⟩ := cells_of_cell hc
  exact (World.cell?_of_block ((h.same _ o ho hi).trans ho.symm)).trans hc
theorem KeepC.nod {W W' : World} {b o : Nat} {v : Nv} (h : KeepC W W') (hn : NodAt W b o v) : NodAt W' b o v :=
  ⟨h.cell hn.c0, h.cell hn.c1, h.cell hn.c2, h.cell hn.c3, h.cell hn.c4, h.cell hn.c5, h.cell hn.c6, h.cell hn.c7, h.cell hn.c8, h.cell hn.c9⟩
end Tab
open Tab

set_option maxRecDepth 100000 in
set_option maxHeartbeats 1000000 in
theorem owners1_in (n l Bn k c : Nat) (hn : 2 ≤ n) (ao : Option Addr) (L : List (Nv × Nod)) (J Jx : List I64 → World → Prop) (W0 : World) (hJ : AbidesFrom W0.heap.size J)
    (hY : ∀ pre x W, J pre W → pre.length < (us L).length → YieldAt Fence.wide (n - 1) Tryz.prog l #[.int .i64 x.1] W fun e W' =>
      (e = .returned (.bool true) ∧ J (pre ++ [x]) W' ∧ KeepC W W') ∨ (e = .returned (.bool false) ∧ Jx (pre ++ [x]) W'))
    (hBn : W0.cell? ⟨Bn, 0, none⟩ = some (.slice ao k c)) (hL : Ns W0 ao k L) (hk : k ≤ 1000000) (hw : Wf L) (h0 : J [] W0) :
    CallsIn Fence.wide n Tryz.prog 131 #[.func (.yield l) #[] #[], .pointer (some ⟨Bn, 0, none⟩)] W0 fun e W' => (∃ v, e = .returned v) ∧ ((∃ ys, ys = us L ∧ J ys W') ∨ (∃ pre, True ∧ Jx pre W')) := by
  have hlen := hL.1
  have h1n : 1 ≤ n := by omega
  have HL := hide hL
  have HY : Hid (∀ pre x W, J pre W → pre.length < (us L).length → YieldAt Fence.wide (n - 1) Tryz.prog l #[.int .i64 x.1] W fun e W' =>
      (e = .returned (.bool true) ∧ J (pre ++ [x]) W' ∧ KeepC W W') ∨ (e = .returned (.bool false) ∧ Jx (pre ++ [x]) W')) := hY
  clear hY hL
  refine callsIn_of_wp Tryz.func131 rfl trivial ?_ rfl
  simp only [Tryz.ntmps131, List.size_toArray, List.length_cons, List.length_nil, Nat.reduceAdd, Nat.reduceSub, Array.replicate_succ, Array.replicate_zero, List.push_toArray, List.append_toArray, List.nil_append, List.cons_append]
  gi_wp2
  gi_loopw [7] (fun r wr => ∃ (i : Nat), r = .int .i64 i ∧ i ≤ k ∧ J (us (L.take i)) wr ∧ KeepC W0 wr) (fun r _ => k - (intOf r).toNat)
  case atStart => exact ⟨0, rfl, Nat.zero_le _, h0, KeepC.refl _⟩
  case round =>
    obtain ⟨i, rfl, hi0, hJi, hki⟩ := hrel
    by_cases hp : i < k
    · obtain ⟨b, off, rfl, hb, hN⟩ := HL.out.at (by omega)
      obtain ⟨v, hv⟩ : ∃ v, (gl L i).1 = v := ⟨_, rfl⟩
      obtain ⟨w1, w2⟩ := hw.at i (by omega)
      have HT := hide (us_take L i (by omega))
      have hul := us_length (L.take i)
      have huL := us_length L
      rw [List.length_take, Nat.min_eq_left (by omega)] at hul
      have hNi := hki.nod (hN i hp)
      rw [hv] at hNi w1 w2 HT
      obtain ⟨c0, c1, c2, c3, c4, c5, c6, c7, c8, c9⟩ := hNi
      have hd : (i : Int) < (k : Int) := by omega
      obtain ⟨W1, hW1⟩ : ∃ W1, wr.alloc (.cells #[.slice v.na v.nn v.nc, .int .i64 v.ino, .int .i64 v.kind, .int .i64 v.mode, .int .i64 v.uid, .int .i64 v.gid, .slice v.da v.dn v.dc, .string v.tg, .slice v.xa v.xn v.xc, .bool v.op] 48) = W1 := ⟨_, rfl⟩
      have hJ1 : J (us (L.take i)) W1 := by rw [← hW1]; exact hJ _ _ _ none hJi (World.grownBy_alloc _ _ _) (fun r e => by cases e)
      have hk1 : KeepC W0 W1 := by rw [← hW1]; exact hki.trans (KeepC.alloc _ _)
      have hg : W1.cell? ⟨wr.heap.size, 5, none⟩ = some (.int .i64 v.gid) := by rw [← hW1]; exact (boxed wr v).c5
      obtain ⟨fn, tmps, assign, body, hy, hR⟩ := HY.out (us (L.take i)) (i64 v.uid) W1 hJ1 (by omega)
      rw [i64_val w1] at hy
      rw [← hW1] at hy
      have hsz : wr.heap.size < W1.heap.size := by rw [← hW1]; simp
      have HW := hide hW1
      clear hW1 hv
      gi_wp2
      rw [HW.out]
      refine hR.mono ?_
      rintro e W3 (⟨rfl, hJ3, hk3⟩ | ⟨rfl, hJx3⟩)
      · have hg3 := hk3.cell hg
        obtain ⟨fn, tmps, assign, body, hy, hR⟩ := HY.out _ (i64 v.gid) W3 hJ3 (by simp; omega)
        rw [i64_val w2] at hy
        gi_wp2
        refine hR.mono ?_
        rintro e W4 (⟨rfl, hJ4, hk4⟩ | ⟨rfl, hJx4⟩)
        · gi_wp2
          go_roundw
          case rel => exact ⟨i + 1, rfl, by omega, by rw [HT.out]; exact hJ4, (hk1.trans hk3).trans hk4⟩
          case measure => simp [intOf]; omega
        · gi_wp2
          refine bodyPost_ret (results_none rfl _ _ _) rfl ?_
          exact ⟨⟨_, rfl⟩, .inr ⟨_, trivial, hJx4⟩⟩
      · gi_wp2
        refine ⟨fun _ h => (by cases h), ?_⟩
        gi_wp2
        refine bodyPost_ret (results_none rfl _ _ _) rfl ?_
        exact ⟨⟨_, rfl⟩, .inr ⟨_, trivial, hJx3⟩⟩
    · obtain rfl : i = k := by omega
      gi_wp2
      go_end0
      exact ⟨⟨_, rfl⟩, .inl ⟨_, by rw [List.take_of_length_le (by omega)], hJi⟩⟩
theorem owners_in (n : Nat) (a : Option Addr) (k c : Nat) (w : World) : CallsIn Fence.wide n Tryz.prog 87 #[.slice a k c] w fun e w' => e = .returned (.func (.func 131) #[] #[.pointer (some ⟨w.heap.size, 0, none⟩)]) ∧ w' = w.alloc (.cells #[.slice a k c] 22) := by
  refine callsIn_of_wp Tryz.func87 rfl trivial ?_ rfl
  simp only [Tryz.ntmps87, List.size_toArray, List.length_cons, List.length_nil, Nat.reduceAdd, Nat.reduceSub, Array.replicate_succ, Array.replicate_zero, List.push_toArray, List.append_toArray, List.nil_append, List.cons_append]
  gi_wp2
  go_ret
  exact ⟨rfl, rfl⟩
theorem owners_stops (n : Nat) (hn : 2 ≤ n) (Bn k c : Nat) (ao : Option Addr) (L : List (Nv × Nod)) (w : World) (hBn : Bn < w.heap.size) (hc : w.cell? ⟨Bn, 0, none⟩ = some (.slice ao k c)) (hL : Ns w ao k L) (hk : k ≤ 1000000) (hw : Wf L) :
    SeqStopsK Fence.wide n Tryz.prog 131 #[.pointer (some ⟨Bn, 0, none⟩)] (fun x : I64 => #[Value.int .i64 x.1]) KeepC (fun ys => ys = us L) (fun _ => True) (us L).length w := fun l J Jx W hW hJ _ hY h0 =>
  owners1_in n l Bn k c hn ao L J Jx W hJ hY ((hW.cell (p := ⟨Bn, 0, none⟩) hBn).trans hc) (hL.below hW) hk hw h0
namespace Tab
/-- The map of numbers. -/
def sD (xs : List I64) : DataW Value := xs.foldl (fun D x => D.put (.int .i64 x.1) (.held (.agg #[]))) (.map [])
theorem sD_snoc (pre : List I64) (x : I64) : sD (pre ++ [x]) = (sD pre).put (.int .i64 x.1) (.held (.agg #[])) := by simp [sD]
theorem put_isMap {D : DataW Value} (h : IsMap D) (k : Lit) (d : DataW Value) : IsMap (D.put k d) := by
  obtain ⟨es, rfl⟩ := h
  exact ⟨_, rfl⟩
theorem fold_has (x : Int) : ∀ (xs : List I64) (D : DataW Value), IsMap D → (has (xs.foldl (fun D x => D.put (.int .i64 x.1) (.held (.agg #[]))) D) (.int .i64 x) = true ↔ has D (.int .i64 x) = true ∨ x ∈ xs.map (·.1))
  | [], D, h => by simp
  | y :: r, D, h => by
    rw [List.foldl_cons, fold_has x r _ (put_isMap h _ _)]
    by_cases e : x = y.1
    · have : has (D.put (.int .i64 y.1) (.held (.agg #[]))) (.int .i64 x) = true := by rw [e]; exact Maps.has_put_same h (show WideAt.IsKeyLit (.int .i64 y.1) from trivial) _
      rw [this]
      simp [e]
    · have : has (D.put (.int .i64 y.1) (.held (.agg #[]))) (.int .i64 x) = has D (.int .i64 x) := Maps.has_put_other (by simp; exact e) _
      rw [this]
      simp [e]
theorem sD_has (xs : List I64) (x : Int) : has (sD xs) (.int .i64 x) = true ↔ x ∈ xs.map (·.1) := by
  rw [sD, fold_has x xs _ isMap_empty]
  simp [has_eq]
end Tab
theorem sorts_in (m : Nat) : AnyZI.SortsIn Tryz.prog sortedL_ren Fence.wide m :=
  ⟨fun blk off cap ss W hH hblk hsz => callsIn_wide.2 (AnyM.slices_Sort_int sortL blk off cap ss W hH hblk hsz),
   fun p cap W => callsIn_wide.2 (AnyM.slices_Sort_int_none sortL p cap W)⟩
/-- The owners: rising, and just those of the nodes. -/
def OwnersOf (L : List (Nv × Nod)) (R : List Int) : Prop := R.Pairwise (· < ·) ∧ ∀ x, x ∈ R ↔ x ∈ (us L).map (·.1)
theorem owners_sorted {W : World} {b n : Nat} {L : List (Nv × Nod)} {ss : List Int} (hown : W.ownsMap Tryz.prog 3 HV b n (sD (us L))) (h1 : ss.Perm (intKeys (sD (us L)))) (h2 : ∀ x, x ∈ ss ↔ has (sD (us L)) (.int .i64 x) = true) :
    OwnersOf L (ss.mergeSort (fun x y => decide (x ≤ y))) := by
  have hnd : ss.Nodup := by
    rw [h1.nodup_iff]
    obtain ⟨es, hD, hpw, _⟩ := hown.entries (Maps.int_keyed Tryz.underlying3)
    obtain ⟨es', hD', hko⟩ := hown.keysOf
    obtain rfl : es = es' := by rw [hD] at hD'; simpa using hD'
    rw [hD]
    show (es.map fun p => Go.intOf p.1).Nodup
    refine List.pairwise_map.2 (hpw.imp_of_mem fun {p q} hp' hq' hne e => hne ?_)
    obtain ⟨v, hv⟩ := hko p hp'
    obtain ⟨x, _, hx, _⟩ := Maps.keyOf_i64 Tryz.underlying3 hv
    obtain ⟨u, hu⟩ := hko q hq'
    obtain ⟨y, _, hy, _⟩ := Maps.keyOf_i64 Tryz.underlying3 hu
    rw [hx, hy] at e ⊢
    exact congrArg _ e
  refine ⟨?_, fun x => ?_⟩
  · have tr : ∀ a b c : Int, decide (a ≤ b) = true → decide (b ≤ c) = true → decide (a ≤ c) = true := fun a b c h1 h2 => by simp only [decide_eq_true_eq] at *; omega
    have to : ∀ a b : Int, (decide (a ≤ b) || decide (b ≤ a)) = true := fun a b => by simp only [Bool.or_eq_true, decide_eq_true_eq]; omega
    have hs := List.pairwise_mergeSort tr to ss
    have hn2 : (ss.mergeSort (fun x y => decide (x ≤ y))).Nodup := (List.mergeSort_perm ss _).nodup_iff.2 hnd
    refine (hs.and hn2).imp (fun {a b} h => ?_)
    have h1 := of_decide_eq_true h.1
    have h2 := h.2
    omega
  · rw [(List.mergeSort_perm ss _).mem_iff, h2, sD_has]
set_option maxRecDepth 100000 in
set_option maxHeartbeats 4000000 in
theorem IDs_any (a : Option Addr) (k c : Nat) (L : List (Nv × Nod)) (w : World) (hL : Ns w a k L) (hk : k ≤ 1000000) (hw : Wf L) :
    Calls Tryz.prog 43 #[.slice a k c] w fun e w' => ∃ v R, e = .returned v ∧ w'.ownsRow w.heap.size 3 1 v R.length (R.map encZ) ∧ OwnersOf L R ∧ Below w.heap.size w w' := by
  refine (callsIn_wide (n := 12)).1 ?_
  have hmm := @run_makeMap Tryz.prog
  have hf1 : Fence.wide.fn 87 := trivial
  refine callsIn_of_wp_marks Tryz.func43 rfl trivial ?_ rfl
  simp only [Tryz.ntmps43, List.size_toArray, List.length_cons, List.length_nil, Nat.reduceAdd, Nat.reduceSub, Array.replicate_succ, Array.replicate_zero, List.push_toArray, List.append_toArray, List.nil_append, List.cons_append]
  gi_wp2_with (gi_at_call 87; refine (owners_in _ _ _ _ _).mono ?_; rintro e w' ⟨rfl, rfl⟩)
  have hm0 := World.ownsMap_made w Tryz.prog 3 HV
  have cS := Go.Boxed.new (w.alloc (.map #[] 0)) 140 (.map (some w.heap.size))
  have cN := Go.Boxed.new ((w.alloc (.map #[] 0)).alloc (.cells #[.map (some w.heap.size)] 140)) 22 (.slice a k c)
  simp only [World.size_alloc] at cS cN
  have hB0 : Below w.heap.size w (((w.alloc (.map #[] 0)).alloc (.cells #[.map (some w.heap.size)] 140)).alloc (.cells #[.slice a k c] 22)) := (((Below.refl _ w).alloc (Nat.le_refl _) _).alloc (by simp) _).alloc (by simp; omega) _
  have hL0 := hL.below hB0
  refine wpIn_rangeFunc_ownG rfl (by omega) (gf := 131) (lb := #[.pointer (some ⟨w.heap.size + 1 + 1, 0, none⟩)]) rfl trivial (enters_of Tryz.func131 (by kernel_rfl) rfl)
    (owners_stops _ (by omega) (w.heap.size + 1 + 1) k c a L _ (by simp) cN.cell hL0 hk hw) (fun h h' => h.trans h') (fun W l o o' _ h1 h2 _ => KeepC.put o' h1 h2) (Below.refl _ _) (fun _ => rfl)
    (fun pre W => (W.cell? ⟨w.heap.size + 1, 0, none⟩ = some (.map (some w.heap.size)) ∧ W.ownsMap Tryz.prog 3 HV w.heap.size pre.length (sD pre)) ∧ Below w.heap.size w W)
    (fun _ _ _ => False)
    (OwnFrom.and (fun s A B row hs hg hr => ⟨cell_kept hs.1 hg (fun r e => (hr r e).2), hs.2.kept hg (fun e => by have := (hr _ e.symm).1; simp at this; omega)⟩) (ownFrom_below (Nat.le_refl _) (by simp; omega)))
    (fun _ _ _ _ _ hs _ _ => hs)
    ⟨⟨(cS.alloc _).cell, (hm0.alloc _).alloc _⟩, hB0⟩
    (fun x => { tmps := #[.slice a k c, undef, .slice none 0 0, .pointer (some ⟨w.heap.size + 1, 0, none⟩), .int .i64 x.1, .map (some w.heap.size), .slice a k c, .func (.func 131) #[] #[.pointer (some ⟨w.heap.size + 1 + 1, 0, none⟩)], .int .i64 x.1, undef, undef, undef, undef, undef, undef], defers := [] }) ?assign ?body ?done ?stop
  case assign =>
    intro l x W K hK
    gi_wp2
    exact hK
  case body =>
    rintro l pre x W ⟨⟨hc, hown⟩, hB⟩ hlt
    gi_wp2_with (gi_at_mapUpdate; refine wpListIn_mapUpdate_own _ rfl _ _ _ 140 rfl 3 144 (Maps.int_keyed Tryz.underlying3) Tryz.underlying140 _ w.heap.size pre.length _ rfl hown (by rw [us_length] at hlt; unfold maxLen; have := hL.1; omega) _ _ _ rfl rfl (Maps.keyOf_int_mk Tryz.underlying3 x.2) _ [] rfl ?_; intro w1 hown1 hgrow1)
    obtain ⟨es, ck, hh, _⟩ := hown
    exact ⟨KeepsFrom.of_grownBy hgrow1 (fun j e => by cases e; simp; omega), KeepC.grown hgrow1 (fun o ho => by rw [hh] at ho; cases ho; rfl),
      ⟨cell_kept hc hgrow1 (fun r e => by cases e; exact ⟨_, hh, rfl⟩), by rw [sD_snoc, List.length_append]; exact hown1⟩, hB.grown hgrow1 hB.size (fun k e => by cases e; exact Nat.le_refl _)⟩
  case done =>
    rintro D ys W hD rfl ⟨⟨hc, hown⟩, hB⟩ hK
    have hDl := (Array.getElem?_eq_some_iff.1 hK).1
    have hDw : w.heap.size ≤ D := by simp at hD; omega
    have hcnt : Maps.size (sD (us L)) ≤ 2000000 := by
      obtain ⟨es, clock, h1, h2, h3, h4⟩ := hown
      rw [h4]
      simp [Maps.size, length_sorted]
      have := us_length L
      have := hL.1
      omega
    have hbox := Go.Boxed.new W 140 (.map (some w.heap.size))
    have hseq : SeqGives Fence.wide 8 Tryz.prog 134 #[.pointer (some ⟨W.heap.size, 0, none⟩)] encZ _ (Maps.size (sD (us L))) (W.alloc (.cells #[.map (some w.heap.size)] 140)) :=
      (AnyZI.keys_stops (ρ := keysL_ren) { keysL with } Fence.wide 8 trivial rfl (by omega) W.heap.size w.heap.size _ (sD (us L)) _ (by simp) hbox.cell (hown.alloc _)).gives
    have cK : ∀ mb W, CallsIn Fence.wide 11 Tryz.prog 89 #[.map mb] W fun e w' => e = .returned (.func (.func 134) #[] #[.pointer (some ⟨W.heap.size, 0, none⟩)]) ∧ w' = W.alloc (.cells #[.map mb] 140) := fun mb W => AnyZI.keys_in keysL Fence.wide 11 trivial rfl mb W
    have cS := AnyZI.sorted_in sortedL Fence.wide 11 trivial trivial trivial trivial rfl (by omega) (sorts_in _) (enters_of Tryz.func133 (by kernel_rfl) rfl) 134 #[.pointer (some ⟨W.heap.size, 0, none⟩)] trivial (enters_of Tryz.func134 (by kernel_rfl) rfl) _ _ (by unfold maxLen; omega) (by omega) _ hseq
    change CallsIn _ _ Tryz.prog 88 _ _ _ at cS
    have hfK : Fence.wide.fn 89 := trivial
    have hfS : Fence.wide.fn 88 := trivial
    gi_wp2_with (first
      | (gi_at_call 89; refine (cK _ _).mono ?_; rintro e w' ⟨rfl, rfl⟩)
      | (gi_at_call 88; refine cS.mono ?_; rintro e W5 ⟨v, ss, rfl, hS, hrow, hnil, hb⟩))
    have hK5 : W5.heap[D]? = some (.deferred (some [])) := (hb.block D (by simp; omega)).trans ((Below.heap_alloc _ _ D hDl).trans hK)
    have hB5 : Below w.heap.size w W5 := hB.trans (((Below.refl w.heap.size W).alloc hB.size _).trans (hb.mono (by simp; have := hB.size; omega)))
    refine ⟨by simp, .inl ⟨_, _, rfl, run_takeDeferred hK5, ?_⟩⟩
    refine ⟨_, results_tmp rfl _ _ _, v, ss.mergeSort (fun x y => decide (x ≤ y)), rfl, ?_, ?_, hB5.trans (belowK_b (w := w) (Nat.le_refl _) W5 D _ _ hDw hK5 rfl rfl)⟩
    · rw [List.length_mergeSort]
      exact ownsRow_putObj (ownsRow_base_a hrow (by simp; have := hB.size; omega)) _ hK5 rfl
    · exact owners_sorted hown hS.1 hS.2
  case stop =>
    rintro D c pre W _ _ h _
    exact h.elim
end Go.Proofs.YtoohanojfoichaaGreatDoor

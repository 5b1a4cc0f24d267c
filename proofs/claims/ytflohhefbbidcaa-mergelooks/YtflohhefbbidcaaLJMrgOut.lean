import Derived.Test.YtflohhefbbidcaaLMrgTog
import Derived.Test.YtflohhefbbidcaaLMrgNum
import Derived.Deep.CutRange
import Derived.Deep.CutBlock
set_option linter.unusedVariables false
namespace Go.Proofs.Ytflohhefbbidcaa
open Nam Tre Stb Plc
namespace Mrg
theorem nno_pat {ks ks' : List Lit} (h1 : ∀ k ∈ ks, WideAt.IsKeyLit k) (h2 : ∀ k ∈ ks', WideAt.IsKeyLit k) (hl : ks.length = ks'.length) (he : ∀ i j (hi : i < ks.length) (hj : j < ks.length), ks[i] = ks[j] ↔ ks'[i]'(by omega) = ks'[j]'(by omega)) : ∀ i, i ≤ ks.length → (nst ks i).1 = (nst ks' i).1 ∧ ∀ j, j < i → nno ks j = nno ks' j
 | 0, _ => ⟨rfl, fun j hj => by omega⟩
 | i + 1, h => by
  obtain ⟨a1, a2⟩ := nno_pat h1 h2 hl he i (by omega)
  by_cases hm : ks[i] ∈ ks.take i
  ·obtain ⟨j, hj, e⟩ := List.getElem_of_mem hm
   rw [List.getElem_take] at e
   have hji : j < i := by rw [List.length_take] at hj; omega
   have e' := (he j i (by omega) (by omega)).1 e
   have hm' : ks'[i]'(by omega) ∈ ks'.take i := by
    rw [← e']; exact List.mem_take_iff_getElem.2 ⟨j, by omega, rfl⟩
   refine ⟨by rw [nst_same h1 (by omega) hm, nst_same h2 (by omega) hm', a1], fun k hk => ?_⟩
   by_cases c : k = i
   ·rw [c, nno_old h1 (by omega) hji e, nno_old h2 (by omega) hji e']
    exact a2 j hji
   ·exact a2 k (by omega)
  ·have hm' : ks'[i]'(by omega) ∉ ks'.take i := by
    intro q
    obtain ⟨j, hj, e⟩ := List.getElem_of_mem q
    rw [List.getElem_take] at e
    have hji : j < i := by rw [List.length_take] at hj; omega
    refine hm ?_
    rw [← (he j i (by omega) (by omega)).2 e]
    exact List.mem_take_iff_getElem.2 ⟨j, by omega, rfl⟩
   obtain ⟨b1, b2⟩ := nno_new h1 (show i < ks.length by omega) hm
   obtain ⟨c1, c2⟩ := nno_new h2 (show i < ks'.length by omega) hm'
   refine ⟨by rw [b2, c2, a1], fun k hk => ?_⟩
   by_cases c : k = i
   ·rw [c, b1, c1, a1]
   ·exact a2 k (by omega)
def kOf (T : List (Nat × Nod)) : List Lit := T.map (fun x => oldK x.1 x.2.ino)
theorem kOf_length (T : List (Nat × Nod)) : (kOf T).length = T.length := by simp [kOf]
theorem kOf_lit (T : List (Nat × Nod)) : ∀ k ∈ kOf T, WideAt.IsKeyLit k := by
 intro k hk
 simp only [kOf, List.mem_map] at hk
 obtain ⟨n, _, rfl⟩ := hk
 trivial
theorem kOf_append (T : List (Nat × Nod)) (x : Nat × Nod) : kOf (T ++ [x]) = kOf T ++ [oldK x.1 x.2.ino] := by simp [kOf]
def outN (x : Nod) (z : Int) : Nod := { x with opq := false, ino := z }
def out (T : List (Nat × Nod)) : List Nod := T.mapIdx (fun j x => outN x.2 (nno (kOf T) j : Int))
theorem out_length (T : List (Nat × Nod)) : (out T).length = T.length := by simp [out]
theorem nno_append (ks : List Lit) (k : Lit) (j : Nat) (h : j < ks.length) : nno (ks ++ [k]) j = nno ks j := by
 unfold nno
 rw [nst_append ks k (j + 1) (by omega)]
 congr 2
 rw [List.getD_eq_getElem?_getD, List.getD_eq_getElem?_getD, List.getElem?_append_left h]
theorem out_append (T : List (Nat × Nod)) (x : Nat × Nod) : out (T ++ [x]) = out T ++ [outN x.2 (nno (kOf T ++ [oldK x.1 x.2.ino]) T.length : Int)] := by
 unfold out
 rw [List.mapIdx_append, kOf_append]
 congr 1
 ·apply List.ext_getElem
  ·simp
  ·intro i h1 h2
   have hi : i < T.length := by simpa using h1
   simp only [List.getElem_mapIdx]
   rw [nno_append _ _ _ (by rw [kOf_length]; exact hi)]
 ·simp
def nmr (L : List (List Nod)) (r : List Pl) : List ByteArray := (nat' L (r.headD (0, 0))).names
def toldR (L : List (List Nod)) (R : List (List Pl)) : List (Nat × Nod) := R.filterMap (fun r => toldOf L (nmr L r) r)
theorem toldR_append (L : List (List Nod)) (R : List (List Pl)) (r : List Pl) : toldR L (R ++ [r]) = toldR L R ++ (toldOf L (nmr L r) r).toList := by
 unfold toldR
 rw [List.filterMap_append]
 cases e : toldOf L (nmr L r) r <;> simp [e]
theorem Tog.row {L : List (List Nod)} {R : List (List Pl)} (h : Tog L R) {r : List Pl} (hr : r ∈ R) : IsRow L (nmr L r) r ∧ r ≠ [] := by
 obtain ⟨p, t, rfl, h2⟩ := h.one r hr
 exact ⟨h2, by simp⟩
theorem Tog.ltN {L : List (List Nod)} {R : List (List Pl)} (h : Tog L R) : R.Pairwise (fun r s => less (nm (nmr L r)) (nm (nmr L s)) = true) := by
 have := h.ord.imp_of_mem (S := fun r s => less (nm (nmr L r)) (nm (nmr L s)) = true) (fun {r s} hr hs q => by
  obtain ⟨p, t, rfl, _⟩ := h.one r hr
  obtain ⟨p', t', rfl, _⟩ := h.one s hs
  exact q p (by simp) p' (by simp))
 exact this
theorem told_mem {L : List (List Nod)} (hB : ∀ t ∈ L, Br t) {R : List (List Pl)} (h : Tog L R) (x : Nat × Nod) : x ∈ toldR L R ↔ x ∈ mrs L := by
 unfold toldR
 rw [List.mem_filterMap]
 constructor
 ·rintro ⟨r, hr, e⟩
  exact ((told_iff hB (h.row hr).1 x).1 e).1
 ·intro hx
  obtain ⟨⟨t, t1, t2⟩, _⟩ := mem_iff.1 hx
  have hi : x.1 < L.length := by
   rcases Nat.lt_or_ge x.1 L.length with q | q
   ·exact q
   ·rw [List.getElem?_eq_none q] at t1; cases t1
  rw [ly_lt hi] at t1
  have ht := Option.some.inj t1
  obtain ⟨k, k1, k2⟩ := nat_of hi (by rw [ht]; exact t2)
  obtain ⟨r, hr, hp⟩ := h.all _ k1
  have hrow := (h.row hr).1
  have e := ((hrow.mem _).1 hp).2
  rw [k2] at e
  exact ⟨r, hr, (told_iff hB hrow x).2 ⟨hx, e⟩⟩
theorem told_names {L : List (List Nod)} (hB : ∀ t ∈ L, Br t) {R : List (List Pl)} (h : Tog L R) : (toldR L R).Pairwise (fun x y => less (nm x.2.names) (nm y.2.names) = true) := by
 have key : ∀ S : List (List Pl), (∀ r ∈ S, r ∈ R) → S.Pairwise (fun r s => less (nm (nmr L r)) (nm (nmr L s)) = true) → (toldR L S).Pairwise (fun x y => less (nm x.2.names) (nm y.2.names) = true) := by
  intro S
  induction S with
  | nil => intro _ _; exact List.Pairwise.nil
  | cons r S ih =>
   intro hS hp
   rw [List.pairwise_cons] at hp
   have ih' := ih (fun s hs => hS s (by simp [hs])) hp.2
   unfold toldR
   cases e : toldOf L (nmr L r) r with
   | none => simp only [List.filterMap_cons, e]; exact ih'
   | some x =>
    simp only [List.filterMap_cons, e]
    rw [List.pairwise_cons]
    refine ⟨fun y hy => ?_, ih'⟩
    obtain ⟨s, hs, e2⟩ := List.mem_filterMap.1 hy
    have h1 := ((told_iff hB (h.row (hS r (by simp))).1 x).1 e).2
    have h2 := ((told_iff hB (h.row (hS s (by simp [hs]))).1 y).1 e2).2
    rw [h1, h2]
    exact hp.1 s hs
 exact key R (fun r hr => hr) h.ltN
theorem told_perm {L : List (List Nod)} (hB : ∀ t ∈ L, Br t) {R : List (List Pl)} (h : Tog L R) : (toldR L R).Perm (mrs L) := by
 have n1 : (toldR L R).Nodup := (told_names hB h).imp fun {a b} q e => by rw [e, less_irrefl] at q; cases q
 have n2 : (mrs L).Nodup := by
  have := nodup (L := L) (fun t ht => (hB t ht).nodup)
  exact (List.pairwise_map.1 this).imp fun {a b} q e => q (by rw [e])
 exact (List.perm_ext_iff_of_nodup n1 n2).2 (fun x => told_mem hB h x)
def InL (L : List (List Nod)) : Prop := L.length ≤ 1000000 ∧ ∀ t ∈ L, ∀ n ∈ t, (Lit.int .i64 n.ino).wf = true
def cod (i : Nat) (z : Int) : Int := (i : Int) * 36893488147419103232 + z
theorem wf_i64 {z : Int} (h : (Lit.int .i64 z).wf = true) : -9223372036854775808 ≤ z ∧ z < 9223372036854775808 := by
 simp [Lit.wf] at h
 have e : IntKind.i64.min = -9223372036854775808 := rfl
 rw [e] at h
 omega
theorem cod_inj {L : List (List Nod)} (hI : InL L) : Inj2 cod (mrs L) := fun p hp q hq => by
 have w : ∀ x ∈ mrs L, (Lit.int .i64 x.2.ino).wf = true := fun x hx => by
  obtain ⟨⟨t, t1, t2⟩, _⟩ := mem_iff.1 hx
  exact hI.2 t (List.mem_of_getElem? t1) _ t2
 have h1 := wf_i64 (w p hp)
 have h2 := wf_i64 (w q hq)
 unfold cod
 constructor
 ·intro e
  exact ⟨by omega, by omega⟩
 ·rintro ⟨e1, e2⟩; rw [e1, e2]
theorem out_merge {L : List (List Nod)} (hB : ∀ t ∈ L, Br t) (hI : InL L) {R : List (List Pl)} (h : Tog L R) : IsMerge L (out (toldR L R)) := by
 have hp := told_perm hB h
 have hw : ∀ x ∈ toldR L R, (Lit.int .i64 (x.1 : Int)).wf = true ∧ (Lit.int .i64 x.2.ino).wf = true := fun x hx => by
  obtain ⟨⟨t, t1, t2⟩, _⟩ := mem_iff.1 ((told_mem hB h x).1 hx)
  refine ⟨?_, hI.2 t (List.mem_of_getElem? t1) _ t2⟩
  have h1 : x.1 < L.length := by
   rcases Nat.lt_or_ge x.1 L.length with q | q
   ·exact q
   ·rw [List.getElem?_eq_none q] at t1; cases t1
  have := hI.1
  have e : IntKind.i64.min = -9223372036854775808 := rfl
  simp [Lit.wf, e]; omega
 refine ⟨cod, cod_inj hI, (toldR L R).map (cl cod), hp.map _, ?_, ?_⟩
 ·rw [List.pairwise_map]
  exact (told_names hB h).imp fun {x y} q => less_asymm _ _ q
 ·apply List.ext_getElem
  ·rw [out_length, numb_length, List.length_map]
  ·intro i h1 h2
   rw [out_length] at h1
   rw [numb_get _ i (by simpa using h1)]
   simp only [out, List.getElem_mapIdx, List.getElem_map]
   have hpat := nno_pat (kOf_lit (toldR L R)) (ikeys_lit ((toldR L R).map (cl cod))) (by rw [kOf_length, ikeys_length, List.length_map]) (fun a b ha hb => by
    rw [kOf_length] at ha hb
    simp only [kOf, ikeys, List.getElem_map]
    have m1 := List.getElem_mem ha
    have m2 := List.getElem_mem hb
    constructor
    ·intro e
     obtain ⟨e1, e2⟩ := oldK_inj (hw _ m1).1 (hw _ m1).2 (hw _ m2).1 (hw _ m2).2 e
     have := (cod_inj hI _ ((told_mem hB h _).1 m1) _ ((told_mem hB h _).1 m2)).2 ⟨e1, e2⟩
     simp only [cl]
     rw [this]
    ·intro e
     simp only [cl] at e
     injection e with _ e
     obtain ⟨e1, e2⟩ := (cod_inj hI _ ((told_mem hB h _).1 m1) _ ((told_mem hB h _).1 m2)).1 e
     rw [e1, e2]) (toldR L R).length (by rw [kOf_length]; exact Nat.le_refl _)
   rw [hpat.2 i h1]
   rfl
end Mrg
end Go.Proofs.Ytflohhefbbidcaa
namespace Go.Proofs.Ytflohhefbbidcaa
set_option maxRecDepth 100000
open Go.RowKit Go.Maps
open Nam Tre
open Lz (g)
theorem pcopS_any (w : World) (ao : Option Addr) (n c : Nat) (l : List ByteArray) (h : Rs w ao n l) (hnil : ao = none → c = 0) (hn : n ≤ 1000000) :
  Calls Try.prog 49 #[.slice ao n c] w fun e w' => ∃ ao' c', e = .returned (.slice ao' n c') ∧ w'.ownsRow w.heap.size 9 1 (.slice ao' n c') n (sv l) ∧ Below w.heap.size w w' := by
 obtain ⟨na, nc, w1, run1, own1, gr1⟩ := clone_strs w 31 ao n c l h hnil hn
 have H := hide (And.intro own1 (grownBy_below gr1 (Nat.le_refl _)))
 clear own1 gr1 h hnil
 go_enter Try.func49, Try.ntmps49
 go_wp2_with (at_builtin; refine wpList_append_run rfl _ _ _ rfl _ _ _ rfl rfl run1 ?_)
 go_ret
 exact ⟨_, _, rfl, H.out⟩
theorem pcopB_any (w : World) (ao : Option Addr) (n c : Nat) (l : List Int) (h : Bs w ao n l) (hnil : ao = none → c = 0) (hn : n ≤ 1000000) :
  Calls Try.prog 50 #[.slice ao n c] w fun e w' => ∃ ao' c', e = .returned (.slice ao' n c') ∧ w'.ownsRow w.heap.size 5 1 (.slice ao' n c') n (bv l) ∧ Below w.heap.size w w' := by
 obtain ⟨na, nc, w1, run1, own1, gr1⟩ := clone_bytes w 41 ao n c l h hnil hn
 have H := hide (And.intro own1 (grownBy_below gr1 (Nat.le_refl _)))
 clear own1 gr1 h hnil
 go_enter Try.func50, Try.ntmps50
 go_wp2_with (at_builtin; refine wpList_append_run rfl _ _ _ rfl _ _ _ rfl rfl run1 ?_)
 go_ret
 exact ⟨_, _, rfl, H.out⟩
theorem pcopX_any (w : World) (ao : Option Addr) (n c : Nat) (X : List Xv) (hX : X.length = n) (h : n = 0 ∨ ∃ b off, ao = some ⟨b, off, none⟩ ∧ ∀ j u, (xvs X)[j]? = some u → w.cell? ⟨b, off + j, none⟩ = some u) (hnil : ao = none → c = 0) (hn : n ≤ 1000000) :
  Calls Try.prog 51 #[.slice ao n c] w fun e w' => ∃ ao' c', e = .returned (.slice ao' n c') ∧ w'.ownsRow w.heap.size 95 2 (.slice ao' n c') n (xvs X) ∧ Below w.heap.size w w' := by
 obtain ⟨na, nc, w1, run1, own1, gr1⟩ := clone_xats w 42 ao n c X hX h hnil hn
 have H := hide (And.intro own1 (grownBy_below gr1 (Nat.le_refl _)))
 clear own1 gr1 h hnil
 go_enter Try.func51, Try.ntmps51
 go_wp2_with (at_builtin; refine wpList_append_run rfl _ _ _ rfl _ _ _ rfl rfl run1 ?_)
 go_ret
 exact ⟨_, _, rfl, H.out⟩
theorem Bk.set9 {w : World} {p : Nat} {v : Nv} (h : Bk w p v) (b : Bool) : Bk (w.setCell ⟨p, 9, none⟩ (.bool b)) p { v with op := b } := setCell_heap w p 9 _ _ _ _ h
theorem mid_of {w W0 w3 : World} {v : Nv} {x : Nod} {na da xa : Option Addr} {nc dc xc : Nat} {X : List Xv} (hsz : W0.heap.size = w.heap.size + 2) (hb0 : Below w.heap.size w W0) (hbk : Bk W0 w.heap.size v) (hrk : Bk W0 (w.heap.size + 1) nv0) (hb3 : Below W0.heap.size W0 w3)
  (o1 : w3.ownsRow W0.heap.size 9 1 (.slice na v.nn nc) v.nn (sv x.names)) (o2 : w3.ownsRow W0.heap.size 5 1 (.slice da v.dn dc) v.dn (bv x.data)) (o3 : w3.ownsRow W0.heap.size 95 2 (.slice xa v.xn xc) v.xn (xvs X)) (hX : X.length = v.xn) :
  Mid w (((w3.setCell ⟨w.heap.size, 0, none⟩ (.slice na v.nn nc)).setCell ⟨w.heap.size, 6, none⟩ (.slice da v.dn dc)).setCell ⟨w.heap.size, 8, none⟩ (.slice xa v.xn xc)) v x na da xa nc dc xc X X 0 := by
 have b3 : Bk w3 w.heap.size v := hbk.block (hb3.block _ (by omega))
 have r3 : Bk w3 (w.heap.size + 1) nv0 := hrk.block (hb3.block _ (by omega))
 have c1 := b3.set0 na v.nn nc
 have c2 := c1.set6 da v.dn dc
 have c3 := c2.set8 xa v.xn xc
 have k1 : ∀ e, e ≠ 44 → KeepT e w3 (((w3.setCell ⟨w.heap.size, 0, none⟩ (.slice na v.nn nc)).setCell ⟨w.heap.size, 6, none⟩ (.slice da v.dn dc)).setCell ⟨w.heap.size, 8, none⟩ (.slice xa v.xn xc)) := fun e he => ((b3.keepT e he _).trans (c1.keepT e he _)).trans (c2.keepT e he _)
 refine ⟨c3, ?_, ?_, (k1 _ (by decide)).owns (own_up o1 (by omega)), (k1 _ (by decide)).owns (own_up o2 (by omega)), (k1 _ (by decide)).owns (own_up o3 (by omega)), hX, fun j _ => rfl, fun j hj => by omega⟩
 ·exact r3.block (by rw [set_other _ _ _ _ _ (by omega), set_other _ _ _ _ _ (by omega), set_other _ _ _ _ _ (by omega)])
 ·exact (((hb0.trans (hb3.mono hb0.size)).setCell (p := ⟨w.heap.size, 0, none⟩) (Nat.le_refl _) _).setCell (p := ⟨w.heap.size, 6, none⟩) (Nat.le_refl _) _).setCell (p := ⟨w.heap.size, 8, none⟩) (Nat.le_refl _) _
def nop (v : Nv) : Nv := { v with op := false }
def nopN (x : Nod) : Nod := { x with opq := false }
theorem rep_nop {w : World} {v : Nv} {x : Nod} (h : Rep w v x) : Rep w (nop v) (nopN x) := { h with op := rfl }
theorem Mid.nop {w wr : World} {v : Nv} {x : Nod} {na da xa : Option Addr} {nc dc xc i : Nat} {X X' : List Xv} (h : Mid w wr v x na da xa nc dc xc X X' i) : Mid w (wr.setCell ⟨w.heap.size, 9, none⟩ (.bool false)) (Ytflohhefbbidcaa.nop v) (nopN x) na da xa nc dc xc X X' i := by
 have kp : ∀ e, e ≠ 44 → KeepT e wr (wr.setCell ⟨w.heap.size, 9, none⟩ (.bool false)) := fun e he => h.bk.keepT e he _
 exact ⟨h.bk.set9 false, h.rb.block (set_other _ _ _ _ _ (by omega)), h.bel.setCell (p := ⟨w.heap.size, 9, none⟩) (Nat.le_refl _) _, (kp _ (by decide)).owns h.names, (kp _ (by decide)).owns h.data, (kp _ (by decide)).owns h.row, h.len, h.old, fun j hj => ⟨(h.new j hj).1, (h.new j hj).2.1, (kp _ (by decide)).owns (h.new j hj).2.2⟩⟩
structure RepO (w : World) (B : Nat) (v : Nv) (x : Nod) : Prop where
 rep : Rep w v x
 names : w.ownsRow B 9 1 (.slice v.na v.nn v.nc) v.nn (sv x.names)
 data : w.ownsRow B 5 1 (.slice v.da v.dn v.dc) v.dn (bv x.data)
 xs : ∃ X, X.length = v.xn ∧ w.ownsRow B 95 2 (.slice v.xa v.xn v.xc) v.xn (xvs X) ∧ ∀ j, j < v.xn → (gX X j).s = (gx x.xs j).1 ∧ (gx x.xs j).1.size ≤ 9223372036854775807 ∧ w.ownsRow B 5 1 (.slice (gX X j).va (gX X j).vn (gX X j).vc) (gX X j).vn (bv (gx x.xs j).2)
theorem RepO.keep {w w' : World} {B : Nat} {v : Nv} {x : Nod} (h : RepO w B v x) (k1 : KeepT 9 w w') (k2 : KeepT 5 w w') (k3 : KeepT 95 w w') : RepO w' B v x := by
 have hn := k1.owns h.names
 have hd := k2.owns h.data
 obtain ⟨X, hl, hx, hv⟩ := h.xs
 have hx' := k3.owns hx
 have hr := h.rep
 have hv' : ∀ j, j < v.xn → (gX X j).s = (gx x.xs j).1 ∧ (gx x.xs j).1.size ≤ 9223372036854775807 ∧ w'.ownsRow B 5 1 (.slice (gX X j).va (gX X j).vn (gX X j).vc) (gX X j).vn (bv (gx x.xs j).2) := fun j hj => ⟨(hv j hj).1, (hv j hj).2.1, k2.owns (hv j hj).2.2⟩
 have by1 : Bytes x.data := hr.data.bytes
 refine ⟨{ hr with names := rs_of_owns hn, data := bs_of_owns hd hr.data.bytes, xs := xsr_of hx' hr.xs.1 hl fun j hj => ?_ }, hn, hd, X, hl, hx', hv'⟩
 obtain ⟨q1, q2, q3⟩ := hv' j hj
 have hc := cap_owns q3
 have hb : Bytes (gx x.xs j).2 := by
  obtain ⟨Y, hY1, hY2, _⟩ := hr.xs.xv
  exact (hY2 j hj).2.1.bytes
 exact ⟨q1.symm, bs_of_owns q3 hb, hc.1, hc.2.1, hc.2.2, q2⟩
theorem Mid.finO {w wr : World} {v : Nv} {x : Nod} {na da xa : Option Addr} {nc dc xc i : Nat} {X X' : List Xv} (h : Mid w wr v x na da xa nc dc xc X X' i) (hX : ∀ wr, Below w.heap.size w wr → ∀ i, i < v.xn → XRep wr (gX X i) (gx x.xs i)) (hi : i = v.xn)
  (u : Nv) (hu : u = { v with na := na, nc := nc, da := da, dc := dc, xa := xa, xc := xc }) (hr : Rep (put10 wr (w.heap.size + 1) u) u x) : RepO (put10 wr (w.heap.size + 1) u) w.heap.size u x := by
 have kp : ∀ e, e ≠ 44 → KeepT e wr (put10 wr (w.heap.size + 1) u) := fun e he => h.rb.put10_keepT u e he
 have hn := (kp _ (by decide)).owns h.names
 have hd := (kp _ (by decide)).owns h.data
 have hx := (kp _ (by decide)).owns h.row
 have hbel := put10_below h.bel (show w.heap.size ≤ w.heap.size + 1 by omega) u
 have e1 : u.na = na := by rw [hu]
 have e2 : u.da = da := by rw [hu]
 have e3 : u.xa = xa := by rw [hu]
 have e4 : u.xn = v.xn := by rw [hu]
 have e5 : u.nn = v.nn := by rw [hu]
 have e6 : u.dn = v.dn := by rw [hu]
 have e7 : u.nc = nc := by rw [hu]
 have e8 : u.dc = dc := by rw [hu]
 have e9 : u.xc = xc := by rw [hu]
 refine ⟨hr, by rw [e1, e5, e7]; exact hn, by rw [e2, e6, e8]; exact hd, X', by rw [e4]; exact h.len, by rw [e3, e4, e9]; exact own_up hx (by omega), fun j hj => ?_⟩
 rw [e4] at hj
 obtain ⟨q1, q2, q3⟩ := h.new j (by omega)
 obtain ⟨t1, _, _, _, _, t6⟩ := hX _ hbel j hj
 exact ⟨q1.trans t1.symm, t6, (kp _ (by decide)).owns q3⟩
set_option maxHeartbeats 40000000 in
theorem told_any (v : Nv) (x : Nod) (w : World) (hr : Rep w v x) (hL : Lean1 v x) :
  Calls Try.prog 27 #[.agg v.cells] w fun e w' => ∃ v', e = .returned (.agg v'.cells) ∧ RepO w' w.heap.size v' (nopN x) ∧ Below w.heap.size w w' := by
 obtain ⟨W0, hW0⟩ : ∃ W0, W0 = (w.alloc (.cells v.cells 44)).alloc (.cells #[.slice none 0 0, .int .i64 0, .int .i64 0, .int .i64 0, .int .i64 0, .int .i64 0, .slice none 0 0, .string ⟨#[]⟩, .slice none 0 0, .bool false] 44) := ⟨_, rfl⟩
 have b0 : Bk W0 w.heap.size v := by rw [hW0]; exact (bk_new w v).block (Below.heap_alloc _ _ _ (by simp))
 have r0 : Bk W0 (w.heap.size + 1) nv0 := by rw [hW0]; have := bk_new (w.alloc (.cells v.cells 44)) nv0; rw [World.size_alloc] at this; exact this
 have e0 : Below w.heap.size w W0 := by rw [hW0]; exact below_alloc2 w _ _
 have s0 : W0.heap.size = w.heap.size + 2 := by rw [hW0]; simp
 obtain ⟨X, hXl, hXr, hXc0⟩ := hr.xs.xv
 have HC1 : Hid (∀ W, Below W0.heap.size W0 W → Calls Try.prog 49 #[.slice v.na v.nn v.nc] W fun e w' => ∃ ao' c', e = .returned (.slice ao' v.nn c') ∧ w'.ownsRow W0.heap.size 9 1 (.slice ao' v.nn c') v.nn (sv x.names) ∧ Below W.heap.size W w') := fun W hW => by
  refine (pcopS_any W v.na v.nn v.nc x.names ((hr.below e0).below hW).names hr.nnil hL.nn).mono ?_
  rintro e w' ⟨ao', c', rfl, h1, h2⟩
  exact ⟨_, _, rfl, own_up h1 hW.size, h2⟩
 have HC2 : Hid (∀ W, Below W0.heap.size W0 W → Calls Try.prog 50 #[.slice v.da v.dn v.dc] W fun e w' => ∃ ao' c', e = .returned (.slice ao' v.dn c') ∧ w'.ownsRow W0.heap.size 5 1 (.slice ao' v.dn c') v.dn (bv x.data) ∧ Below W.heap.size W w') := fun W hW => by
  refine (pcopB_any W v.da v.dn v.dc x.data ((hr.below e0).below hW).data hr.dnil hL.dn).mono ?_
  rintro e w' ⟨ao', c', rfl, h1, h2⟩
  exact ⟨_, _, rfl, own_up h1 hW.size, h2⟩
 have HC3 : Hid (∀ W, Below W0.heap.size W0 W → Calls Try.prog 51 #[.slice v.xa v.xn v.xc] W fun e w' => ∃ ao' c', e = .returned (.slice ao' v.xn c') ∧ w'.ownsRow W0.heap.size 95 2 (.slice ao' v.xn c') v.xn (xvs X) ∧ Below W.heap.size W w') := fun W hW => by
  have hXc : v.xn = 0 ∨ ∃ b off, v.xa = some ⟨b, off, none⟩ ∧ ∀ j u, (xvs X)[j]? = some u → W.cell? ⟨b, off + j, none⟩ = some u := by
   rcases hXc0 with h0 | ⟨b, off, h1, h2⟩
   ·exact .inl h0
   ·exact .inr ⟨b, off, h1, fun j u hu => ((e0.trans (hW.mono e0.size)).cell (p := ⟨b, off + j, none⟩) (World.block_lt_of_cell? w _ (h2 j u hu))).trans (h2 j u hu)⟩
  refine (pcopX_any W v.xa v.xn v.xc X hXl hXc hr.xnil hL.xn).mono ?_
  rintro e w' ⟨ao', c', rfl, h1, h2⟩
  exact ⟨_, _, rfl, own_up h1 hW.size, h2⟩
 have HBK : Hid (∀ W, Below W0.heap.size W0 W → W.cell? ⟨w.heap.size, 0, none⟩ = some (.slice v.na v.nn v.nc) ∧ W.cell? ⟨w.heap.size, 6, none⟩ = some (.slice v.da v.dn v.dc) ∧ W.cell? ⟨w.heap.size, 8, none⟩ = some (.slice v.xa v.xn v.xc) ∧ W.frozen? ⟨w.heap.size, 0, none⟩ = false ∧ W.frozen? ⟨w.heap.size, 6, none⟩ = false ∧ W.frozen? ⟨w.heap.size, 8, none⟩ = false) := fun W hW => by
  have hb := b0.block (hW.block w.heap.size (by omega))
  exact ⟨hb.box.c0, hb.box.c6, hb.box.c8, hb.frozen 0, hb.frozen 6, hb.frozen 8⟩
 have HMD : Hid (∀ w3 na da xa nc dc xc, Below W0.heap.size W0 w3 → w3.ownsRow W0.heap.size 9 1 (.slice na v.nn nc) v.nn (sv x.names) → w3.ownsRow W0.heap.size 5 1 (.slice da v.dn dc) v.dn (bv x.data) → w3.ownsRow W0.heap.size 95 2 (.slice xa v.xn xc) v.xn (xvs X) → Mid w (((w3.setCell ⟨w.heap.size, 0, none⟩ (.slice na v.nn nc)).setCell ⟨w.heap.size, 6, none⟩ (.slice da v.dn dc)).setCell ⟨w.heap.size, 8, none⟩ (.slice xa v.xn xc)) v x na da xa nc dc xc X X 0) := fun w3 na da xa nc dc xc hb3 o1 o2 o3 => mid_of s0 e0 b0 r0 hb3 o1 o2 o3 hXl
 have HXR : Hid (∀ wr, Below w.heap.size w wr → ∀ i, i < v.xn → XRep wr (gX X i) (gx x.xs i)) := by
  intro wr hb i hi
  obtain ⟨q1, q2, q3⟩ := hXr i hi
  exact ⟨q1, q2.below hb, q3⟩
 have HSZ := hide s0
 have hxl : v.xn ≤ 1000000 := hL.xn
 have HL1 := hide hL
 have HR := hide hr
 have H0 := hide hW0
 clear hr b0 r0 e0 s0 hXr hXc0 hL
 rw [show v.cells = #[.slice v.na v.nn v.nc, .int .i64 v.ino, .int .i64 v.kind, .int .i64 v.mode, .int .i64 v.uid, .int .i64 v.gid, .slice v.da v.dn v.dc, .string v.tg, .slice v.xa v.xn v.xc, .bool v.op] from rfl] at hW0 ⊢
 go_enter Try.func27, Try.ntmps27
 go_upto_region 1 with fail
 rw [← hW0]
 clear hW0
 have HB0 := hide (Below.refl W0.heap.size W0)
 obtain ⟨c0, c6, c8, f0, f6, f8⟩ := HBK.out _ HB0.out
 go_cut [] from 4 to 15 (fun wx => ∃ na nc da dc xa xc, Mid w wx v x na da xa nc dc xc X X 0)
 case first =>
  go_region_with (first
   | (have hx2 := HB2.out; clear hx2; go_at_call 51; refine (HC3.out _ (by first | exact HB2.out | exact HB2.out.drew)).mono ?_; rintro e w3 ⟨xa, xc, rfl, o3, hb3⟩; have HB3 : Hid (Below W0.heap.size W0 w3) := HB2.out.trans (Below.mono (by first | exact hb3 | exact (Below.refl w2.heap.size w2).drew.trans hb3) HB2.out.size); have HO3 := hide o3; obtain ⟨_, _, _, i0, i6, i8⟩ := HBK.out _ HB3.out; have HM := hide (HMD.out w3 _ _ _ _ _ _ HB3.out (owns_below HO1.out (HB12.out.trans (Below.mono (by first | exact hb3 | exact (Below.refl w2.heap.size w2).drew.trans hb3) HB12.out.size))) (owns_below HO2.out (by first | exact hb3 | exact (Below.refl w2.heap.size w2).drew.trans hb3)) o3); clear o3 hb3)
   | (have hx1 := HB1.out; clear hx1; go_at_call 50; refine (HC2.out _ (by first | exact HB1.out | exact HB1.out.drew)).mono ?_; rintro e w2 ⟨da, dc, rfl, o2, hb2⟩; have HB12 : Hid (Below w1.heap.size w1 w2) := (by first | exact hb2 | exact (Below.refl w1.heap.size w1).drew.trans hb2); have HB2 : Hid (Below W0.heap.size W0 w2) := HB1.out.trans (HB12.out.mono HB1.out.size); have HO2 := hide o2; obtain ⟨_, _, d8, _, _, _⟩ := HBK.out _ HB2.out; clear o2 hb2)
   | (go_at_call 49; refine (HC1.out _ (by first | exact HB0.out | exact HB0.out.drew)).mono ?_; rintro e w1 ⟨na, nc, rfl, o1, hb1⟩; have HB1 : Hid (Below W0.heap.size W0 w1) := (by first | exact hb1 | exact (HB0.out.drew).trans hb1); have HO1 := hide o1; obtain ⟨_, e6, e8, _, _, _⟩ := HBK.out _ HB1.out; clear o1 hb1))
  all_goals (
   go_wp2_with fail
   go_meet
   first | exact ⟨_, _, _, _, _, _, HM.out⟩)
 case rest =>
  clear HC1 HC3 HMD HBK HB0 c0 c6 c8 f0 f6 f8
  obtain ⟨na, nc, da, dc, xa, xc, hM0⟩ := hcut
  have HM0 := hide hM0
  have d8 := hM0.bk.box.c8
  clear hM0
  have HC2b : Hid (∀ W, ∀ i, i < v.xn → Below w.heap.size w W → ∀ g, gX X i = g → Calls Try.prog 50 #[.slice g.va g.vn g.vc] W fun e w' => ∃ ao' c', e = .returned (.slice ao' g.vn c') ∧ w'.ownsRow W.heap.size 5 1 (.slice ao' g.vn c') g.vn (bv (gx x.xs i).2) ∧ Below W.heap.size W w') := fun W i hi hW g hg => by
   subst hg
   obtain ⟨q1, q2, q3, q4, q5, q6⟩ := HXR.out W hW i hi
   refine pcopB_any W _ _ _ _ q2 q5 ?_
   rw [← q2.1]
   have hmem : gx x.xs i ∈ x.xs := by rw [gx_lt _ _ (by have := HR.out.xs.1; omega)]; exact List.getElem_mem _
   exact HL1.out.xv _ hmem
  clear HC2
  go_wp2_with fail
  go_loopw [3, 19] (fun _ r wr => ∃ (i : Nat) (X' : List Xv), r = .int .i64 i ∧ i ≤ v.xn ∧ Mid w wr v x na da xa nc dc xc X X' i) (fun _ r _ => v.xn - (intOf r).toNat)
  case atStart => exact ⟨0, X, rfl, Nat.zero_le _, HM0.out⟩
  case round =>
   obtain ⟨i, X', rfl, hi0, hm⟩ := hrel
   have HM := hide hm
   by_cases hi : i < v.xn
   ·have hd : decide ((i : Int) < v.xn) = true := by simpa using hi
    clear HM0 H0
    obtain ⟨gb, xc', hv, hgB, hgl⟩ := hm.row.form (by omega)
    obtain ⟨rfl, _, rfl⟩ : xa = some ⟨gb, 0, none⟩ ∧ v.xn = v.xn ∧ xc = xc' := by simpa using hv
    have p8 := hm.bk.box.c8
    have hcv : wr.cell? ⟨gb, i * 2 + 1, none⟩ = some (.slice (gX X i).va (gX X i).vn (gX X i).vc) := by
     rw [hm.row.cellAt _ (by omega), (xvs_get X' i (by rw [hm.len]; exact hi)).2, ← gX_lt X' i (by rw [hm.len]; exact hi), hm.old i (Nat.le_refl _)]
    have HST : Hid (∀ w5 a c, Below wr.heap.size wr w5 → w5.ownsRow wr.heap.size 5 1 (.slice a (gX X i).vn c) (gX X i).vn (bv (gx x.xs i).2) → Mid w (w5.setCell ⟨gb, i * 2 + 1, none⟩ (.slice a (gX X i).vn c)) v x na da (some ⟨gb, 0, none⟩) nc dc xc X (X'.set i ⟨(gX X' i).s, a, (gX X i).vn, c⟩) (i + 1)) := fun w5 a c hb ho => HM.out.step hi (show wr.drew.grownBy w5 none from ⟨hb.os, hb.tape, hb.output, hb.size, fun k hk _ => hb.block k hk⟩) a _ c ho rfl
    have HCL : Hid (∀ w5, Below wr.heap.size wr w5 → w5.cell? ⟨w.heap.size, 8, none⟩ = some (.slice (some ⟨gb, 0, none⟩) v.xn xc) ∧ w5.cell? ⟨gb, i * 2 + 1, none⟩ = some (.slice (gX X i).va (gX X i).vn (gX X i).vc) ∧ w5.frozen? ⟨gb, i * 2 + 1, none⟩ = false) := fun w5 hb => by
     have row5 := owns_below HM.out.row hb
     refine ⟨(HM.out.bk.block (hb.block _ (heap_lt HM.out.bk))).box.c8, ?_, row5.frozenAt _⟩
     rw [row5.cellAt _ (by omega), (xvs_get X' i (by rw [HM.out.len]; exact hi)).2, ← gX_lt X' i (by rw [HM.out.len]; exact hi), HM.out.old i (Nat.le_refl _)]
    have HCB := hide (fun W (hW : Below wr.heap.size wr W) => HC2b.out W i hi (HM.out.bel.trans (hW.mono HM.out.bel.size)) _ rfl)
    have hi1 : (i : Int) < v.xn := by omega
    generalize hg : gX X i = gg at *
    obtain ⟨gs0, gva, gvn, gvc⟩ := gg
    simp only at hcv HST HCL HCB
    have HB0 := hide (Below.refl wr.heap.size wr)
    clear hm hv hg
    go_wp2
    go_region_with (go_at_call 50; refine (HCB.out _ (by first | exact HB0.out | exact HB0.out.drew)).mono ?_; rintro e w5 ⟨a5, k5, rfl, o5, hb5⟩; have HB5 : Hid (Below wr.heap.size wr w5) := (by first | exact hb5 | exact HB0.out.drew.trans hb5); have HO5 := hide o5; obtain ⟨m8, mcv, mfz⟩ := HCL.out _ HB5.out; clear o5 hb5)
    all_goals (
     go_wp2
     exact ⟨⟨i + 1, _, by go_num, by omega, HST.out _ _ _ HB5.out HO5.out⟩, by simp [intOf]; omega⟩)
   ·have hd : decide ((i : Int) < v.xn) = false := by simpa using hi
    have HM1 := hide HM.out.nop
    have z9 := hm.bk.frozen 9
    have y9 := hm.bk.box.c9
    simp only at y9
    have hN : i = v.xn := by omega
    have HN := hide hN
    have HRN : Hid (∀ u : Nv, u = { (nop v) with na := na, nc := nc, da := da, dc := dc, xa := xa, xc := xc } → RepO (put10 (wr.setCell ⟨w.heap.size, 9, none⟩ (.bool false)) (w.heap.size + 1) u) w.heap.size u (nopN x) ∧ Below w.heap.size w (put10 (wr.setCell ⟨w.heap.size, 9, none⟩ (.bool false)) (w.heap.size + 1) u)) := fun u hu => by
     have q := HM1.out.fin (rep_nop HR.out) HXR.out hN u hu
     exact ⟨HM1.out.finO HXR.out hN u hu q.1, q.2.2⟩
    have hb8 := HM1.out.bk.box
    have hb9 := HM1.out.rb.box
    obtain ⟨w8, hw8⟩ : ∃ w8, w8 = wr.setCell ⟨w.heap.size, 9, none⟩ (.bool false) := ⟨_, rfl⟩
    rw [← hw8] at HM1 HRN hb8 hb9
    obtain ⟨_, p0, p1, p2, p3, p4, p5, p6, p7, p8, p9⟩ := hb8
    obtain ⟨_, t0, t1, t2, t3, t4, t5, t6, t7, t8, t9⟩ := hb9
    have z0 := HM1.out.rb.frozen 0
    have z1 := HM1.out.rb.frozen 1
    have z2 := HM1.out.rb.frozen 2
    have z3 := HM1.out.rb.frozen 3
    have z4 := HM1.out.rb.frozen 4
    have z5 := HM1.out.rb.frozen 5
    have z6 := HM1.out.rb.frozen 6
    have z7 := HM1.out.rb.frozen 7
    have z8 := HM1.out.rb.frozen 8
    have z99 := HM1.out.rb.frozen 9
    simp only [nop] at p0 p1 p2 p3 p4 p5 p6 p7 p8 p9
    clear hm hN HM HM0 H0 HC2b d8
    go_upto_region 8 with fail
    rw [← hw8]
    clear hw8
    go_wp2_with fail
    obtain ⟨u, hu⟩ : ∃ u : Nv, u = { (nop v) with na := na, nc := nc, da := da, dc := dc, xa := xa, xc := xc } := ⟨_, rfl⟩
    obtain ⟨w9, hw9⟩ : ∃ w9, w9 = put10 w8 (w.heap.size + 1) u := ⟨_, rfl⟩
    have hb9 : Bk w9 (w.heap.size + 1) u := by rw [hw9]; exact HM1.out.rb.put10 u
    have FIN := hide (HRN.out u hu)
    rw [← hw9] at FIN
    obtain ⟨_, m0, m1, m2, m3, m4, m5, m6, m7, m8, m9⟩ := hb9.box
    have hw9' := hw9
    unfold put10 at hw9'
    rw [hu] at hw9' m0 m1 m2 m3 m4 m5 m6 m7 m8 m9
    simp only [nop] at hw9' m0 m1 m2 m3 m4 m5 m6 m7 m8 m9
    rw [← hw9']
    refine bodyPost_ret (v := .agg #[.slice na v.nn nc, .int .i64 v.ino, .int .i64 v.kind, .int .i64 v.mode, .int .i64 v.uid, .int .i64 v.gid, .slice da v.dn dc, .string v.tg, .slice xa v.xn xc, .bool false]) (by simp [results, Try.results27, go_sem, m0, m1, m2, m3, m4, m5, m6, m7, m8, m9]) rfl ?_
    exact ⟨u, by rw [hu]; rfl, FIN.out.1, FIN.out.2⟩
end Go.Proofs.Ytflohhefbbidcaa

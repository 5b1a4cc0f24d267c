/- What the proof stands on, part 3 of 7: the texts TreKid, TreLook, TreKidP, LzAll, CrcAll, CurState, CurLeaf, CurRead, CurWrite, CurDead, CurNew, each with what the proof reaches of it. -/
import Derived.Test.YtchcejjoncihkaaGreatDoorJb
import Derived.Test.YtchcejjoncihkaaGreatDoorRows
import Derived.WalkKit
import Derived.WalkSpells
import Derived.WalkLawsBesides
import Derived.BigQuiet
import Derived.Deep.QuietTactic
import Derived.Maps.Own
import Derived.Maps.OwnOps
import Derived.Maps.OwnSet
import Derived.Maps.AppendAt
import Derived.Deep.AppendLies
import Derived.Maps.Views
import Derived.Deep.RegionHeld3
import Derived.Deep.RegionLaw
import Derived.Laws.BitsAllLaws
import Derived.Deep.WholeRow
import Derived.Deep.LoopGhost
import Derived.Laws.ResultCell
import Derived.Laws.CopyOwn

/- Layer 7: tree.Kids, walked. -/
namespace Go.Proofs.YtchcejjoncihkaaGreatDoor
set_option linter.unusedVariables false
open Go.RowKit Go.Maps
open Nam Tre Stb

set_option maxRecDepth 100000 in
set_option maxHeartbeats 4000000 in
theorem kids1_any (a : Option Addr) (n c : Nat) (L : List (Nv × Nod)) (b : Option Addr) (m d : Nat) (k : List ByteArray) (p2 p3 : Nat) (x y : Nat) (w : World) (hl : Ns w a n L) (hk : Rs w b m k) (hx : x < n) (hy : y < n) (hkx : kid L k x = true) (hky : kid L k y = true) (hn : n ≤ 1000) (hm : m ≤ 1000000)
    (h2 : w.cell? ⟨p2, 0, none⟩ = some (.slice a n c)) (h3 : w.cell? ⟨p3, 0, none⟩ = some (.slice b m d)) :
    Calls Tryz.prog 218 (#[.int .i64 (x : Int), .int .i64 (y : Int)] ++ #[.pointer (some ⟨p2, 0, none⟩), .pointer (some ⟨p3, 0, none⟩)]) w fun e w' => e = .returned (.int .i64 (kcm L k.length x y)) ∧ ∃ q, w' = w.drewN q := by
  have hLn := hl.1
  have hkl : k.length = m := hk.1
  obtain ⟨ba, oa, rfl, hba, hca⟩ := hl.at (by omega)
  have e1 := (hca x hx).c0
  have e2 := (hca y hy).c0
  have r1 := hl.2.1 _ (gl_mem L x (by omega))
  have r2 := hl.2.1 _ (gl_mem L y (by omega))
  have n1 := r1.names.1
  have n2 := r2.names.1
  simp only [kid, Bool.and_eq_true, decide_eq_true_eq] at hkx hky
  obtain ⟨b1, o1, f1, g1, s1⟩ : ∃ b off, (gl L x).1.na = some ⟨b, off, none⟩ ∧ b < w.heap.size ∧ ∀ i, i < (gl L x).2.names.length → w.cell? ⟨b, off + i, none⟩ = some (.string (gs (gl L x).2.names i)) := by
    rcases r1.names.2 with h | h
    · omega
    · exact h
  obtain ⟨b2, o2, f2, g2, s2⟩ : ∃ b off, (gl L y).1.na = some ⟨b, off, none⟩ ∧ b < w.heap.size ∧ ∀ i, i < (gl L y).2.names.length → w.cell? ⟨b, off + i, none⟩ = some (.string (gs (gl L y).2.names i)) := by
    rcases r2.names.2 with h | h
    · omega
    · exact h
  have t1 := s1 m (by omega)
  have t2 := s2 m (by omega)
  rw [f1] at e1
  rw [f2] at e2
  have i1 : (x : Int) < n := by omega
  have i2 : (y : Int) < n := by omega
  have l1 : (m : Int) < ((gl L x).1.nn : Nat) := by omega
  have l2 : (m : Int) < ((gl L y).1.nn : Nat) := by omega
  have HE : Hid (kcm L k.length x y = Lib.compareBytes (gs (gl L x).2.names m).toList (gs (gl L y).2.names m).toList) := by
    show _ = _
    unfold kcm ky
    rw [hkl]
  generalize gs (gl L x).2.names m = u1 at *
  generalize gs (gl L y).2.names m = u2 at *
  generalize (gl L x).1.nn = q1 at *
  generalize (gl L y).1.nn = q2 at *
  generalize (gl L x).1.nc = q3 at *
  generalize (gl L y).1.nc = q4 at *
  clear hl hk hca r1 r2 s1 s2 hkx hky n1 n2 f1 f2 hkl hLn
  show Calls Tryz.prog 218 #[.int .i64 (x : Int), .int .i64 (y : Int), .pointer (some ⟨p2, 0, none⟩), .pointer (some ⟨p3, 0, none⟩)] w _
  go_enter Tryz.func218, Tryz.ntmps218
  go_wp2_with fail
  go_quiet ((go_at_call 219; refine Calls.quiet_of_same (strCompare_any _ _ _)))
  go_wp2
  go_ret
  exact ⟨ret_int HE.out.symm, _, rfl⟩
theorem kid_below {L : List (Nv × Nod)} {k : List ByteArray} {i : Nat} (h : (gl L i).2.names.length = k.length + 1) : below (nm (gl L i).2.names) (nm k) = kid L k i := by
  unfold below kid
  rw [nm_length, nm_length, ← nm_take, decide_eq_true h, decide_eq_true (show k.length < (gl L i).2.names.length by omega), nm_dec]
theorem kid_short {L : List (Nv × Nod)} {k : List ByteArray} {i : Nat} (h : (gl L i).2.names.length ≠ k.length + 1) : kid L k i = false := by
  unfold kid
  rw [decide_eq_false h]; rfl
theorem bdn {B : Nat} {a w : World} (h : Below B a w) (q : Nat) : Below B a (w.drewN q) := ⟨h.os, h.tape, h.output, h.size, h.block⟩
theorem owns_drewN {w : World} {B e size n : Nat} {v : Value} {xs : List Value} (h : w.ownsRow B e size v n xs) (q : Nat) : (w.drewN q).ownsRow B e size v n xs := h
theorem rise_fn0 {K : List Nat} (h : K.Pairwise (· < ·)) {i j : Nat} (hij : i < j) (hj : j < K.length) : fn0 K i < fn0 K j := by
  rw [fn0_lt K i (by omega), fn0_lt K j hj]
  exact List.pairwise_iff_getElem.1 h i j (by omega) hj hij
theorem ivs_map (n : Nat) (D : Nat → Nat) : ivs n D = ((List.range n).map D).map (fun z : Nat => Value.int .i64 (z : Int)) := by
  unfold ivs; rw [List.map_map]; rfl
set_option maxRecDepth 100000 in
set_option maxHeartbeats 8000000 in
theorem Kids_new (a : Option Addr) (n c : Nat) (L : List (Nv × Nod)) (b : Option Addr) (m d : Nat) (k : List ByteArray) (w : World) (hl : Ns w a n L) (hc : n ≤ c) (hcm : c ≤ 9223372036854775807) (hk : Rs w b m k) (hmd : m ≤ 9223372036854775807) (h20 : ∀ p ∈ L, p.2.names.length ≤ 1000000) (hn : n ≤ 60) :
    Calls Tryz.prog 172 #[.slice a n c, .slice b m d] w fun e w' => ∃ ao kn kc K, e = .returned (.slice ao kn kc) ∧ Ki w' ao kn K ∧ kn ≤ 60 ∧ kn ≤ kc ∧ kc ≤ 9223372036854775807 ∧ IsKids L k K ∧ Below w.heap.size w w' ∧ (0 < kn → ∀ p, ao = some p → w.heap.size ≤ p.block) := by
  have HL := hide hl
  have HLN := hide hl.1
  have HK := hide hk
  have H20 := hide h20
  obtain ⟨W2, hW2⟩ : ∃ W2, W2 = (w.alloc (.cells #[.slice a n c] 22)).alloc (.cells #[.slice b m d] 32) := ⟨_, rfl⟩
  have hbW : Below w.heap.size w W2 := by rw [hW2]; exact ((Below.refl _ _).alloc (Nat.le_refl _) _).alloc (by simp) _
  have hsz : W2.heap.size = w.heap.size + 2 := by rw [hW2]; simp
  have hp2 : W2.cell? ⟨w.heap.size, 0, none⟩ = some (.slice a n c) := by rw [hW2]; simp
  have hp3 : W2.cell? ⟨w.heap.size + 1, 0, none⟩ = some (.slice b m d) := by rw [hW2]; simp
  have HBW := hide hbW
  have HSZ := hide hsz
  have HW2 := hide hW2
  have HP2 : Hid (∀ W, Below W2.heap.size W2 W → W.cell? ⟨w.heap.size, 0, none⟩ = some (.slice a n c)) := fun W h => (h.cell (by rw [hsz]; simp)).trans hp2
  have HP3 : Hid (∀ W, Below W2.heap.size W2 W → W.cell? ⟨w.heap.size + 1, 0, none⟩ = some (.slice b m d)) := fun W h => (h.cell (by rw [hsz]; simp)).trans hp3
  have HLW : Hid (∀ W, Below W2.heap.size W2 W → Below w.heap.size w W) := fun W h => hbW.trans (h.mono (by omega))
  clear hl hk h20 hbW hsz hp2 hp3
  go_enter Tryz.func172, Tryz.ntmps172
  go_wp2
  rw [← hW2]
  clear hW2
  go_loopw [5, 6, 7, 10] (fun r5 _ _ r10 wr => ∃ (i kn kc : Nat) (ko : Option Addr), r5 = .slice ko kn kc ∧ r10 = .int .i64 i ∧ i ≤ n ∧ kn = (kf L k i).length ∧ wr.ownsRow W2.heap.size 3 1 (.slice ko kn kc) kn ((kf L k i).map (fun z : Nat => Value.int .i64 (z : Int))) ∧ Below W2.heap.size W2 wr) (fun _ _ _ r10 _ => n - (intOf r10).toNat)
  case atStart => exact ⟨0, 0, 0, none, rfl, rfl, Nat.zero_le _, rfl, ⟨rfl, .inl ⟨rfl, rfl⟩⟩, Below.refl _ _⟩
  case round =>
    obtain ⟨i, kn, kc, ko, rfl, rfl, hi0, hkn, hown, hbel⟩ := hrel
    have HB := hide hbel
    have HO := hide hown
    have hkn2 := kf_length L k i
    rw [← hkn] at hkn2
    have HKN := hide hkn
    have hs2 := hbel.size
    by_cases hi : i < n
    · have hd : decide ((i : Int) < n) = true := by simpa using hi
      have hil : i < L.length := by rw [HLN.out]; exact hi
      obtain ⟨ba, oa, hao, hba, hca⟩ := (HL.out.below (HLW.out _ hbel)).at (by omega)
      subst hao
      obtain ⟨c0, c1, c2, c3, c4, c5, c6, c7, c8, c9⟩ := hca i hi
      have hrep := (HL.out.below (HLW.out _ hbel)).2.1 _ (gl_mem L i hil)
      have cb : ∀ o, (wr.alloc o).cell? ⟨w.heap.size + 1, 0, none⟩ = some (.slice b m d) := fun o => HP3.out _ (hbel.alloc hs2 _)
      have i1 : (i : Int) < n := by omega
      have hnl := hrep.names.1
      have hnm := H20.out _ (gl_mem L i hil)
      have HKS := hide (kf_succ L k i)
      have hkm : k.length = m := HK.out.1
      have e1 := hide (fun o : Obj => (HB.out.alloc hs2 o))
      by_cases hlen : (gl L i).1.nn = m + 1
      · obtain ⟨m1, hm1⟩ : ∃ m1, m1 = m + 1 := ⟨_, rfl⟩
        have vm : IntKind.i64.wrap ((m : Int) + 1) = (m1 : Int) := by rw [IntWalk.i64_in _ (by omega)]; omega
        have HKB := hide (kid_below (L := L) (k := k) (i := i) (by omega))
        have HCA := hide (fun o => Below_any (gl L i).1.na b (gl L i).1.nn (gl L i).1.nc m d (gl L i).2.names k (wr.alloc o) ((HL.out.below (HLW.out _ (e1.out o))).2.1 _ (gl_mem L i hil)).names (HK.out.below (HLW.out _ (e1.out o))) (by omega) (by omega) hrep.nc hrep.ncm)
        rw [hlen, ← hm1] at c0 HCA
        generalize (gl L i).1 = v at *
        generalize below (nm (gl L i).2.names) (nm k) = z at *
        clear hca hrep hnl hnm hown hbel hkm hlen hm1 hkn
        cases z
        · have HKF : Hid (kf L k (i + 1) = kf L k i) := by
            show _ = _
            rw [HKS.out, ← HKB.out]; rfl
          go_wp2_with (go_at_call 216; refine (HCA.out _).mono ?_; rintro e0 w1 ⟨rfl, q, rfl⟩)
          refine ⟨⟨i + 1, kn, kc, ko, rfl, by go_num, by omega, by rw [HKF.out]; exact HKN.out, by rw [HKF.out]; exact HO.out.alloc _, ?_⟩, by simp [intOf]; omega⟩
          exact bdn (e1.out _) q
        · have HKF : Hid (kf L k (i + 1) = kf L k i ++ [i]) := by
            show _ = _
            rw [HKS.out, ← HKB.out]; rfl
          go_wp2_with (first | (go_at_call 216; refine (HCA.out _).mono ?_; rintro e0 w1 ⟨rfl, q, rfl⟩) | (at_builtin; refine wpList_append_int _ rfl _ _ rfl W2.heap.size _ _ _ (kf L k i) rfl ?_ _ i rfl ?_ (by omega) ?_ ?_))
          · exact (owns_drewN (HO.out.alloc _) q).alloc _
          · rw [World.cell?_alloc_at _ _ _ _ (by simp)]; rfl
          · simp; omega
          intro ao' c' w' hown2 hg2
          have HE2 := hide hown2
          have HE3 := hide (((bdn (e1.out _) q).alloc (by simp; omega) _).grown hg2 (by simp; omega) (fun x e => (HO.out.lt x e).1))
          clear hown2 hg2
          go_wp2
          refine ⟨⟨i + 1, kn + 1, c', ao', rfl, by go_num, by omega, by rw [HKF.out, List.length_append, ← HKN.out]; rfl, by rw [HKF.out, List.map_append]; exact HE2.out, HE3.out⟩, by simp [intOf]; omega⟩
      · have HKF : Hid (kf L k (i + 1) = kf L k i) := by
          show _ = _
          rw [HKS.out, kid_short (by omega)]; rfl
        obtain ⟨z, hz⟩ : ∃ z, IntKind.i64.wrap ((m : Int) + 1) = z := ⟨_, rfl⟩
        have hzz : (((gl L i).1.nn : Int) == z) = false := by
          have : ((gl L i).1.nn : Int) ≠ z := by
            rw [← hz]
            by_cases hm9 : m + 1 ≤ 9223372036854775807
            · rw [IntWalk.i64_in _ (by omega)]; omega
            · obtain rfl : m = 9223372036854775807 := by omega
              have : IntKind.i64.wrap (((9223372036854775807 : Nat) : Int) + 1) = -9223372036854775808 := by decide
              rw [this]; omega
          simpa using this
        have hzz2 : ¬ (((gl L i).1.nn : Int) = z) := by simpa using hzz
        generalize (gl L i).1 = v at *
        clear hca hrep hnl hnm hown hbel hkm hlen hkn
        go_wp2
        refine ⟨⟨i + 1, kn, kc, ko, rfl, by go_num, by omega, by rw [HKF.out]; exact HKN.out, by rw [HKF.out]; exact HO.out.alloc _, e1.out _⟩, by simp [intOf]; omega⟩
    · have hd : decide ((i : Int) < n) = false := by simpa using hi
      obtain rfl : i = n := by omega
      have hcap := cap_owns hown
      by_cases h0 : kn = 0
      · subst h0
        have HF : Hid (IsKids L k []) := by
          have := isKids_of (L := L) (k := k) (D := fun _ => 0) ⟨fun x y h1 h2 h3 => by rw [HLN.out, ← hkn] at h3; omega, fun x => by
            rw [HLN.out, ← hkn]
            exact ⟨fun ⟨y, h1, h2, _⟩ => by omega, fun ⟨y, h1, h2, _⟩ => by omega⟩⟩
          rw [HLN.out, ← hkn] at this
          exact this
        clear hown hbel hkn
        go_wp2_with (go_at_call 217; refine (SortStable_none _ _ _ _).mono ?_; rintro e0 w1 ⟨rfl, rfl⟩)
        go_ret
        exact ⟨_, _, _, [], rfl, ⟨rfl, .inl rfl⟩, by omega, by omega, hcap.2.1, HF.out, HLW.out _ HB.out, fun h => by omega⟩
      · obtain ⟨g, kc', hv, hg1, hg2⟩ := hown.form (by omega)
        obtain ⟨rfl, rfl⟩ : ko = some ⟨g, 0, none⟩ ∧ kc = kc' := by simpa using hv
        have hg3 := hown.lt g rfl
        have HIR : Hid (IR wr W2.heap.size g kn kc wr (fn0 (kf L k i))) := by
          refine ⟨?_, Below.refl _ _⟩
          have := ivs_fn0 (kf L k i)
          rw [← hkn] at this
          rw [this]; exact hown
        have HCM : Hid (Cmps 218 #[.pointer (some ⟨w.heap.size, 0, none⟩), .pointer (some ⟨w.heap.size + 1, 0, none⟩)] (kcm L k.length) (fun x => x < i ∧ kid L k x = true) wr g) := by
          intro w' hb x y hx hy
          have hb2 : Below w.heap.size w w' := (HLW.out _ hbel).trans (hb.mono (by have := HSZ.out; omega))
          have hs3 := HSZ.out
          refine kids1_any a i c L b m d k _ _ x y w' (HL.out.below hb2) (HK.out.below hb2) hx.1 hy.1 hx.2 hy.2 (by omega) ?_ ((hb.cell (by show w.heap.size < g; omega)).trans (HP2.out _ hbel)) ((hb.cell (by show w.heap.size + 1 < g; omega)).trans (HP3.out _ hbel))
          have h1 := hx.2
          simp only [kid, Bool.and_eq_true, decide_eq_true_eq] at h1
          have h2 := H20.out _ (gl_mem L x (by rw [HLN.out]; exact hx.1))
          have h3 := HK.out.1
          omega
        have HCA := hide (SortStable_any wr W2.heap.size g kn kc 218 _ (kcm L k.length) (kl L k.length) (fun x => x < i ∧ kid L k x = true) (fn0 (kf L k i)) wr (enters _ Tryz.func218 (by kernel_rfl) rfl) HCM.out (kl_odr L _) HIR.out (by omega) (fun x hx => by
            have hx' : x < (kf L k i).length := by rw [← hkn]; exact hx
            have : fn0 (kf L k i) x ∈ kf L k i := by rw [fn0_lt _ _ hx']; exact List.getElem_mem hx'
            exact kf_lt this) (fun x y h1 h2 => rise_fn0 (kf_rise L k i) h1 (by rw [← hkn]; exact h2)))
        clear hown hbel hv hkn
        go_wp2_with (go_at_call 217; refine HCA.out.mono ?_; rintro e0 w1 ⟨rfl, D, hir, hst⟩; have HE1 := hide hir; have HE2 := hide hst; clear hir hst HCA)
        go_ret
        refine ⟨_, _, _, (List.range kn).map D, rfl, Ki.of (by rw [← ivs_map]; exact HE1.out.row), by omega, by omega, hcap.2.1, ?_, ?_, fun _ p e => by cases e; have := HSZ.out; show w.heap.size ≤ g; omega⟩
        · have hf := HE2.out
          have e1 := HLN.out
          rw [HKN.out] at hf
          rw [← e1] at hf
          have := isKids_of hf
          rw [e1, ← HKN.out] at this
          exact this
        · exact (HLW.out _ HB.out).trans (HE1.out.bel.mono (by have := HSZ.out; omega))
end Go.Proofs.YtchcejjoncihkaaGreatDoor

/- Layer 7: tree.Find, tree.Links and the reference's Links, walked. -/
namespace Go.Proofs.YtchcejjoncihkaaGreatDoor
set_option linter.unusedVariables false
open Go.RowKit Go.Maps
open Nam Tre Stb

namespace Tre
/-- How many of the first i nodes have this Ino. -/
def cn (L : List (Nv × Nod)) (z : Int) (i : Nat) : Nat := ((L.take i).filter (fun p => p.1.ino == z)).length
theorem cn_zero (L : List (Nv × Nod)) (z : Int) : cn L z 0 = 0 := by simp [cn]
theorem cn_succ (L : List (Nv × Nod)) (z : Int) (i : Nat) (h : i < L.length) : cn L z (i + 1) = if ((gl L i).1.ino == z) = true then cn L z i + 1 else cn L z i := by
  unfold cn
  rw [List.take_succ_eq_append_getElem h, List.filter_append, List.length_append, gl_lt L i h]
  by_cases c : (L[i].1.ino == z) = true
  · rw [if_pos c]; simp [c]
  · rw [if_neg c]; simp [c]
theorem cn_le (L : List (Nv × Nod)) (z : Int) (i : Nat) : cn L z i ≤ i := by
  have := List.length_filter_le (fun p : Nv × Nod => p.1.ino == z) (L.take i)
  unfold cn
  have h2 : (L.take i).length ≤ i := by simp; omega
  omega
/-- How many nodes are one with the x-th. -/
def lks (L : List (Nv × Nod)) (x : Int) : Int := if 0 ≤ x ∧ x < L.length then cn L (gl L x.toNat).1.ino L.length else 0
end Tre
set_option maxRecDepth 100000 in
set_option maxHeartbeats 4000000 in
theorem Links_any (a : Option Addr) (n c : Nat) (L : List (Nv × Nod)) (x : Int) (w : World) (hl : Ns w a n L) (hc : n ≤ c) (hcm : c ≤ 9223372036854775807) :
    Calls Tryz.prog 60 #[.slice a n c, .int .i64 x] w fun e w' => e = .returned (.int .i64 (lks L x)) ∧ Below w.heap.size w w' := by
  have HL := hide hl
  have HLN := hide hl.1
  by_cases hx0 : x < 0
  · have hd : decide (x < 0) = true := by simpa using hx0
    have HE : Hid ((0 : Int) = lks L x) := by show _ = _; unfold lks; rw [if_neg (by omega)]
    clear hl
    go_enter Tryz.func60, Tryz.ntmps60
    go_wp2
    go_ret
    exact ⟨ret_int HE.out, Below.refl _ _⟩
  · have hd : decide (x < 0) = false := by simpa using hx0
    by_cases hxn : x < n
    · have hd2 : decide (x ≥ (n : Int)) = false := by simp; omega
      have hd3 : decide ((n : Int) ≤ x) = false := by simp; omega
      obtain ⟨j, rfl⟩ : ∃ j : Nat, x = j := ⟨x.toNat, by omega⟩
      have hj : j < n := by omega
      have HE : Hid (lks L j = cn L (gl L j).1.ino n) := by show _ = _; unfold lks; rw [if_pos (by rw [HLN.out]; omega), HLN.out]; simp
      clear hl
      go_enter Tryz.func60, Tryz.ntmps60
      go_wp2
      go_loopw [5, 7, 18] (fun r5 _ r18 wr => ∃ i : Nat, r5 = .int .i64 (cn L (gl L j).1.ino i : Nat) ∧ r18 = .int .i64 i ∧ i ≤ n ∧ Below w.heap.size w wr) (fun _ _ r18 _ => n - (intOf r18).toNat)
      case atStart => exact ⟨0, by rw [cn_zero]; rfl, rfl, Nat.zero_le _, Below.refl _ _⟩
      case round =>
        obtain ⟨i, rfl, rfl, hi0, hbel⟩ := hrel
        have HB := hide hbel
        have hq := cn_le L (gl L j).1.ino i
        by_cases hi : i < n
        · have hd : decide ((i : Int) < n) = true := by simpa using hi
          have hil : i < L.length := by rw [HLN.out]; exact hi
          obtain ⟨ba, oa, rfl, hba, hca⟩ := (HL.out.below hbel).at (by omega)
          obtain ⟨c0, c1, c2, c3, c4, c5, c6, c7, c8, c9⟩ := hca i hi
          have cj : ∀ o, (wr.alloc o).cell? ⟨ba, oa + j * 10 + 1, none⟩ = some (.int .i64 (gl L j).1.ino) := fun o => (((Below.refl wr.heap.size wr).alloc (Nat.le_refl _) o).cell hba).trans (hca j hj).c1
          have i1 : (i : Int) < n := by omega
          have HS := hide (cn_succ L (gl L j).1.ino i hil)
          have e1 := hide (fun o : Obj => (HB.out.alloc hbel.size o))
          generalize (gl L j).1.ino = z at *
          generalize hq' : cn L z i = q at *
          generalize (gl L i).1 = v at *
          clear hca hbel hq'
          by_cases hz : v.ino = z
          · have hz1 : (v.ino == z) = true := by simpa using hz
            rw [hz1] at HS
            have hw : IntKind.i64.wrap ((q : Int) + 1) = (q : Int) + 1 := IntWalk.i64_in _ (by omega)
            clear hz
            go_wp2_with fail
            go_quiet (fail)
            go_wp2
            refine ⟨⟨i + 1, by rw [HS.out]; simp, by go_num, by omega, bdn (e1.out _) _⟩, by simp [intOf]; omega⟩
          · have hz1 : (v.ino == z) = false := by simpa using hz
            rw [hz1] at HS
            clear hz
            go_wp2_with fail
            go_quiet (fail)
            go_wp2
            refine ⟨⟨i + 1, by rw [HS.out]; simp, by go_num, by omega, bdn (e1.out _) _⟩, by simp [intOf]; omega⟩
        · have hd : decide ((i : Int) < n) = false := by simpa using hi
          obtain rfl : i = n := by omega
          clear hbel
          go_wp2
          go_ret
          exact ⟨ret_int HE.out.symm, HB.out⟩
    · have hd2 : decide (x ≥ (n : Int)) = true := by simp; omega
      have hd3 : decide ((n : Int) ≤ x) = true := by simp; omega
      have HE : Hid ((0 : Int) = lks L x) := by show _ = _; unfold lks; rw [if_neg (by rw [HLN.out]; omega)]
      clear hl
      go_enter Tryz.func60, Tryz.ntmps60
      go_wp2
      go_ret
      exact ⟨ret_int HE.out, Below.refl _ _⟩
end Go.Proofs.YtchcejjoncihkaaGreatDoor

/- Layer 7: what is within the directories of a canonical row: each node but the root just once. The pure part. -/
namespace Go.Proofs.YtchcejjoncihkaaGreatDoor
set_option linter.unusedVariables false
open Go.RowKit Go.Maps
open Nam Tre Stb

namespace Tre
/-- What holds of the places of a canonical row. -/
structure CanP (L : List (Nv × Nod)) : Prop where
  ord : ∀ i j, i < j → j < L.length → less (nm (gl L i).2.names) (nm (gl L j).2.names) = true
  par : ∀ i, i < L.length → (gl L i).2.names ≠ [] → ∃ k, k < L.length ∧ (gl L k).2.names = (gl L i).2.names.dropLast ∧ (gl L k).2.kind = 1
theorem canP {l : List Nod} {L : List (Nv × Nod)} (h : CanF l (nds L)) : CanP L := by
  have hl : (nds L).length = L.length := nds_length L
  refine ⟨?_, fun i hi hne => ?_⟩
  · intro i j hij
    induction j with
    | zero => omega
    | succ j ih =>
      intro hj
      have hs := h.ord (j + 1) (by omega) (by omega)
      rw [gn_nds L (j + 1) hj, show j + 1 - 1 = j by omega, gn_nds L j (by omega)] at hs
      rcases Nat.lt_or_ge i j with c | c
      · exact less_trans _ _ _ (ih c (by omega)) hs
      · obtain rfl : i = j := by omega
        exact hs
  · have h1 := h.par i (by omega)
    rw [gn_nds L i hi] at h1
    obtain ⟨k, k1, k2, k3⟩ := h1 hne
    rw [gn_nds L k (by omega)] at k2 k3
    exact ⟨k, by omega, k2, k3⟩
theorem CanP.lt {L : List (Nv × Nod)} (h : CanP L) {i j : Nat} (hi : i < L.length) (hj : j < L.length) (e : less (nm (gl L i).2.names) (nm (gl L j).2.names) = true) : i < j := by
  rcases Nat.lt_trichotomy i j with c | c | c
  · exact c
  · subst c; rw [less_irrefl] at e; cases e
  · have := h.ord j i c hi
    rw [less_asymm _ _ this] at e; cases e
theorem kids_rise {L : List (Nv × Nod)} (h : CanP L) {k : List ByteArray} {K : List Nat} (hK : IsKids L k K) : K.Pairwise (· < ·) := by
  refine hK.pw.imp_of_mem ?_
  intro x y hx hy hxy
  obtain ⟨x1, x2⟩ := (hK.mem x).1 hx
  obtain ⟨y1, y2⟩ := (hK.mem y).1 hy
  rcases hxy with c | ⟨_, c⟩
  · refine h.lt x1 y1 ?_
    have hn : ∀ z, kid L k z = true → nm (gl L z).2.names = nm k ++ [ky L k.length z] := fun z hz => by
      simp only [kid, Bool.and_eq_true, decide_eq_true_eq] at hz
      unfold ky
      generalize (gl L z).2.names = m at *
      have : m = k ++ [gs m k.length] := by
        have e := List.take_append_drop k.length m
        rw [hz.2, List.drop_eq_getElem_cons (by omega), List.drop_eq_nil_of_le (by omega), ← gs_lt m k.length (by omega)] at e
        exact e.symm
      conv => lhs; rw [this]
      rw [nm_append]; rfl
    rw [hn x x2, hn y y2, less_pre]
    unfold less
    rw [if_neg (fun e => by rw [e, bless_irrefl] at c; cases c)]
    exact c
  · exact c
end Tre
end Go.Proofs.YtchcejjoncihkaaGreatDoor

/- LzAll: LzPure, LzChain, LzLeaf, LzTrios, LzMatch, LzRuns, LzPack, LzRefPack, LzUnpack, LzUnpack2, LzRefUnpack, LzBytes, LzRound, as one text. -/

/- The plain mathematics of layer 1 (lz): matches, runs, packing and unpacking over lists of numbers; nothing of the program is named here. -/
namespace Go.Proofs.YtchcejjoncihkaaGreatDoor.Lz



/-- How many bytes from a on are as those from p on, m at most. -/
def lk (zs : List Int) (p a : Nat) : Nat → Nat
  | 0 => 0
  | m + 1 => if g zs p = g zs a then lk zs (p + 1) (a + 1) m + 1 else 0

theorem lk_le (zs : List Int) : ∀ (m p a : Nat), lk zs p a m ≤ m
  | 0, _, _ => Nat.le_refl _
  | m + 1, p, a => by
    unfold lk
    split
    · have := lk_le zs m (p + 1) (a + 1); omega
    · omega

theorem lk_eq (zs : List Int) : ∀ (m p a k : Nat), k < lk zs p a m → g zs (p + k) = g zs (a + k)
  | 0, _, _, _, h => by simp [lk] at h
  | m + 1, p, a, k, h => by
    unfold lk at h
    split at h
    · rename_i he
      cases k with
      | zero => exact he
      | succ k =>
        have := lk_eq zs m (p + 1) (a + 1) k (by omega)
        rw [show p + (k + 1) = p + 1 + k by omega, show a + (k + 1) = a + 1 + k by omega]
        exact this
    · omega

theorem lk_stop (zs : List Int) : ∀ (m p a : Nat), lk zs p a m < m → g zs (p + lk zs p a m) ≠ g zs (a + lk zs p a m)
  | 0, _, _, h => by simp [lk] at h
  | m + 1, p, a, h => by
    unfold lk at h ⊢
    split at h
    · rename_i he
      rw [if_pos he]
      have := lk_stop zs m (p + 1) (a + 1) (by omega)
      rw [show p + (lk zs (p + 1) (a + 1) m + 1) = p + 1 + lk zs (p + 1) (a + 1) m by omega, show a + (lk zs (p + 1) (a + 1) m + 1) = a + 1 + lk zs (p + 1) (a + 1) m by omega]
      exact this
    · rename_i he
      rw [if_neg he]
      exact he

/-- It is the one number of which this holds. -/
theorem lk_unique (zs : List Int) (p a m n : Nat) (h1 : n ≤ m) (h2 : ∀ k, k < n → g zs (p + k) = g zs (a + k)) (h3 : n < m → g zs (p + n) ≠ g zs (a + n)) : lk zs p a m = n := by
  have l1 := lk_le zs m p a
  rcases Nat.lt_trichotomy (lk zs p a m) n with h | h | h
  · exact absurd (h2 _ h) (lk_stop zs m p a (by omega))
  · exact h
  · exact absurd (lk_eq zs m p a n h) (h3 (by omega))

theorem lk_ge (zs : List Int) (p a m n : Nat) (h1 : n ≤ m) (h2 : ∀ k, k < n → g zs (p + k) = g zs (a + k)) : n ≤ lk zs p a m := by
  rcases Nat.lt_or_ge (lk zs p a m) n with h | h
  · exact absurd (h2 _ h) (lk_stop zs m p a (by omega))
  · exact h

/-- As many bytes as a match may have at most. -/
def most (zs : List Int) (a : Nat) : Nat := min 130 (zs.length - a)
/-- How many bytes from a on are as those so far back. -/
def lb (zs : List Int) (a j : Nat) : Nat := lk zs (a - j) a (most zs a)
/-- The longest, and the nearest of these, among the backs up to j. -/
def best (zs : List Int) (a : Nat) : Nat → Nat × Nat
  | 0 => (0, 0)
  | j + 1 => if (best zs a j).1 < lb zs a (j + 1) then (lb zs a (j + 1), j + 1) else best zs a j
/-- Match's answer. -/
def mt (zs : List Int) (a : Nat) : Nat × Nat := if (best zs a (min 256 a)).1 < 3 then (0, 0) else best zs a (min 256 a)

theorem lb_le (zs : List Int) (a j : Nat) : lb zs a j ≤ most zs a := lk_le ..
theorem best_le (zs : List Int) (a : Nat) : ∀ j, (best zs a j).1 ≤ most zs a
  | 0 => Nat.zero_le _
  | j + 1 => by
    unfold best
    split
    · exact lb_le ..
    · exact best_le zs a j
theorem best_back (zs : List Int) (a : Nat) : ∀ j, (best zs a j).2 ≤ j
  | 0 => Nat.le_refl _
  | j + 1 => by
    unfold best
    split
    · exact Nat.le_refl _
    · exact Nat.le_succ_of_le (best_back zs a j)
theorem best_is (zs : List Int) (a : Nat) : ∀ j, best zs a j = (0, 0) ∨ (1 ≤ (best zs a j).2 ∧ (best zs a j).1 = lb zs a (best zs a j).2 ∧ 0 < (best zs a j).1)
  | 0 => .inl rfl
  | j + 1 => by
    unfold best
    split
    · exact .inr ⟨by simp, rfl, by simp; omega⟩
    · exact best_is zs a j
/-- A back that does no better changes nothing. -/
theorem best_skip (zs : List Int) (a j : Nat) (h : lb zs a (j + 1) ≤ (best zs a j).1) : best zs a (j + 1) = best zs a j := by
  rw [best, if_neg (by omega)]
theorem best_take (zs : List Int) (a j : Nat) (h : (best zs a j).1 < lb zs a (j + 1)) : best zs a (j + 1) = (lb zs a (j + 1), j + 1) := by
  rw [best, if_pos h]

/-- Nothing is better than what is as long as may be. -/
theorem best_full (zs : List Int) (a j : Nat) (h : (best zs a j).1 = most zs a) : ∀ k, best zs a (j + k) = best zs a j
  | 0 => rfl
  | k + 1 => by
    have e := best_full zs a j h k
    rw [← Nat.add_assoc, best_skip, e]
    rw [e, h]; exact lb_le ..

/-- Backs at which fewer than three bytes are alike leave what is there: nothing of three bytes, or the same. -/
theorem best_small (zs : List Int) (a j : Nat) : ∀ k, (∀ i, j < i → i ≤ j + k → lb zs a i < 3) → ((best zs a j).1 < 3 ∧ (best zs a (j + k)).1 < 3) ∨ (3 ≤ (best zs a j).1 ∧ best zs a (j + k) = best zs a j)
  | 0, _ => by by_cases h : (best zs a j).1 < 3 <;> simp [h]; omega
  | k + 1, h => by
    have hs := h (j + k + 1) (by omega) (by omega)
    rw [← Nat.add_assoc]
    rcases best_small zs a j k (fun i h1 h2 => h i h1 (by omega)) with ⟨h1, h2⟩ | ⟨h1, h2⟩
    · refine .inl ⟨h1, ?_⟩
      unfold best
      split <;> omega
    · refine .inr ⟨h1, ?_⟩
      rw [best_skip, h2]
      rw [h2]; omega

theorem mt_small (zs : List Int) (a : Nat) (h : most zs a < 3) : mt zs a = (0, 0) := by
  have := best_le zs a (min 256 a)
  unfold mt
  rw [if_pos (by omega)]
theorem mt_le (zs : List Int) (a : Nat) : (mt zs a).1 ≤ most zs a := by
  unfold mt
  split
  · exact Nat.zero_le _
  · exact best_le ..
theorem mt_back (zs : List Int) (a : Nat) : (mt zs a).2 ≤ min 256 a := by
  unfold mt
  split
  · exact Nat.zero_le _
  · exact best_back ..
theorem mt_is (zs : List Int) (a : Nat) : mt zs a = (0, 0) ∨ (3 ≤ (mt zs a).1 ∧ 1 ≤ (mt zs a).2 ∧ (mt zs a).1 = lb zs a (mt zs a).2) := by
  unfold mt
  split
  · exact .inl rfl
  · rcases best_is zs a (min 256 a) with h | ⟨h1, h2, h3⟩
    · rename_i hn; rw [h] at hn; simp at hn
    · exact .inr ⟨by omega, h1, h2⟩

/-! ### runs -/
def runsF : Nat → List Int → List Int
  | 0, _ => []
  | f + 1, l => if l.length = 0 then [] else (((min l.length 128 : Nat) : Int) - 1) :: (l.take (min l.length 128) ++ runsF f (l.drop (min l.length 128)))
theorem runsF_succ (f : Nat) (l : List Int) : runsF (f + 1) l = if l.length = 0 then [] else (((min l.length 128 : Nat) : Int) - 1) :: (l.take (min l.length 128) ++ runsF f (l.drop (min l.length 128))) := rfl
theorem runsF_fuel : ∀ (f : Nat) (l : List Int), l.length ≤ f → runsF f l = runsF l.length l
  | 0, l, h => by rw [Nat.le_zero.1 h]
  | f + 1, l, h => by
    cases hl : l.length with
    | zero => simp [runsF, hl]
    | succ n =>
      have hne : ¬ l.length = 0 := by omega
      rw [runsF_succ f, runsF_succ n, if_neg hne, if_neg hne]
      rw [runsF_fuel f _ (by simp; omega), runsF_fuel n _ (by simp; omega)]
/-- Bytes as runs. -/
def runs (l : List Int) : List Int := runsF l.length l
theorem runs_zero (l : List Int) (h : l.length = 0) : runs l = [] := by rw [List.eq_nil_of_length_eq_zero h]; rfl
theorem runs_step (l : List Int) (h : 0 < l.length) : runs l = ((((min l.length 128 : Nat) : Int) - 1) :: l.take (min l.length 128)) ++ runs (l.drop (min l.length 128)) := by
  unfold runs
  cases hl : l.length with
  | zero => omega
  | succ n =>
    have hne : ¬ l.length = 0 := by omega
    rw [runsF_succ n, if_neg hne, runsF_fuel n _ (by simp; omega), hl]
    rfl
theorem runsF_length : ∀ (f : Nat) (l : List Int), l.length ≤ f → (runsF f l).length = l.length + (l.length + 127) / 128
  | 0, l, h => by rw [Nat.le_zero.1 h]; rfl
  | f + 1, l, h => by
    rw [runsF]
    split
    · rename_i h0; rw [h0]; rfl
    · have := runsF_length f (l.drop (min l.length 128)) (by simp; omega)
      simp only [List.length_cons, List.length_append, this, List.length_take, List.length_drop]
      omega
theorem runs_length (l : List Int) : (runs l).length = l.length + (l.length + 127) / 128 := runsF_length _ _ (Nat.le_refl _)

/-! ### packing -/
def packF (zs : List Int) : Nat → List Int → Nat → Nat → List Int
  | 0, out, run, _ => out ++ runs (zs.drop run)
  | f + 1, out, run, a => if zs.length ≤ a then out ++ runs (zs.drop run) else
      if (mt zs a).1 = 0 then packF zs f out run (a + 1)
      else packF zs f (out ++ runs ((zs.take a).drop run) ++ [((mt zs a).1 : Int) + 125, ((mt zs a).2 : Int) - 1]) (a + (mt zs a).1) (a + (mt zs a).1)
/-- What is still to be packed from a on, behind what is there. -/
def pk (zs : List Int) (out : List Int) (run a : Nat) : List Int := packF zs (zs.length - a) out run a
def pack (zs : List Int) : List Int := pk zs [] 0 0
theorem packF_succ (zs : List Int) (f : Nat) (out : List Int) (run a : Nat) : packF zs (f + 1) out run a = if zs.length ≤ a then out ++ runs (zs.drop run) else
      if (mt zs a).1 = 0 then packF zs f out run (a + 1)
      else packF zs f (out ++ runs ((zs.take a).drop run) ++ [((mt zs a).1 : Int) + 125, ((mt zs a).2 : Int) - 1]) (a + (mt zs a).1) (a + (mt zs a).1) := rfl
theorem packF_fuel (zs : List Int) : ∀ (f : Nat) (out : List Int) (run a : Nat), zs.length - a ≤ f → packF zs f out run a = packF zs (zs.length - a) out run a
  | 0, out, run, a, h => by rw [Nat.le_zero.1 h]
  | f + 1, out, run, a, h => by
    cases hn : zs.length - a with
    | zero => simp [packF, show zs.length ≤ a by omega]
    | succ n =>
      have hne : ¬ zs.length ≤ a := by omega
      rw [packF_succ zs f, packF_succ zs n, if_neg hne, if_neg hne]
      by_cases h0 : (mt zs a).1 = 0
      · rw [if_pos h0, if_pos h0, packF_fuel zs f _ _ _ (by omega), packF_fuel zs n _ _ _ (by omega)]
      · rw [if_neg h0, if_neg h0, packF_fuel zs f _ _ _ (by omega), packF_fuel zs n _ _ _ (by omega)]
theorem pk_end (zs out : List Int) (run a : Nat) (h : zs.length ≤ a) : pk zs out run a = out ++ runs (zs.drop run) := by
  unfold pk
  rw [show zs.length - a = 0 by omega]; rfl
theorem pk_byte (zs out : List Int) (run a : Nat) (h : a < zs.length) (h0 : (mt zs a).1 = 0) : pk zs out run a = pk zs out run (a + 1) := by
  unfold pk
  have hne : ¬ zs.length ≤ a := by omega
  rw [show zs.length - a = (zs.length - (a + 1)) + 1 by omega, packF_succ, if_neg hne, if_pos h0]
theorem pk_copy (zs out : List Int) (run a : Nat) (h : a < zs.length) (h0 : (mt zs a).1 ≠ 0) :
    pk zs out run a = pk zs (out ++ runs ((zs.take a).drop run) ++ [((mt zs a).1 : Int) + 125, ((mt zs a).2 : Int) - 1]) (a + (mt zs a).1) (a + (mt zs a).1) := by
  unfold pk
  have hne : ¬ zs.length ≤ a := by omega
  rw [show zs.length - a = (zs.length - (a + 1)) + 1 by omega, packF_succ, if_neg hne, if_neg h0, packF_fuel _ _ _ _ _ (by omega)]

/-! ### unpacking -/
end Go.Proofs.YtchcejjoncihkaaGreatDoor.Lz

/- The plain mathematics of the chain of places that begin with the same three bytes, and why following it finds the longest and nearest match. -/
namespace Go.Proofs.YtchcejjoncihkaaGreatDoor.Lz

/-- Three bytes as one number. -/
def key (zs : List Int) (i : Nat) : Int := g zs i + 256 * g zs (i + 1) + 65536 * g zs (i + 2)
/-- The last place below k that has the key q. -/
def lastP (zs : List Int) (q : Int) : Nat → Option Nat
  | 0 => none
  | k + 1 => if key zs k = q then some k else lastP zs q k
def prevOf : Option Nat → Int
  | some p => p
  | none => -1
/-- Of each place below k the last one ahead of it that has the same key, or -1. -/
def aheadL (zs : List Int) : Nat → List Int
  | 0 => []
  | k + 1 => aheadL zs k ++ [prevOf (lastP zs (key zs k) k)]

theorem lastP_some (zs : List Int) (q : Int) : ∀ k n, lastP zs q k = some n → n < k ∧ key zs n = q ∧ ∀ j, n < j → j < k → key zs j ≠ q
  | 0, n, h => by simp [lastP] at h
  | k + 1, n, h => by
    unfold lastP at h
    split at h
    · rename_i e
      have : k = n := by simpa using h
      subst this
      exact ⟨by omega, e, fun j h1 h2 => by omega⟩
    · rename_i e
      obtain ⟨h1, h2, h3⟩ := lastP_some zs q k n h
      refine ⟨by omega, h2, fun j j1 j2 => ?_⟩
      by_cases ej : j = k
      · rw [ej]; exact e
      · exact h3 j j1 (by omega)
theorem lastP_none (zs : List Int) (q : Int) : ∀ k, lastP zs q k = none → ∀ j, j < k → key zs j ≠ q
  | 0, _, j, hj => by omega
  | k + 1, h, j, hj => by
    unfold lastP at h
    split at h
    · simp at h
    · rename_i e
      by_cases ej : j = k
      · rw [ej]; exact e
      · exact lastP_none zs q k h j (by omega)
theorem prevOf_lt (zs : List Int) (q : Int) (k : Nat) : -1 ≤ prevOf (lastP zs q k) ∧ prevOf (lastP zs q k) < k := by
  cases h : lastP zs q k with
  | none => simp [prevOf]; omega
  | some n => have := lastP_some zs q k n h; simp [prevOf]; omega
theorem aheadL_length (zs : List Int) : ∀ k, (aheadL zs k).length = k
  | 0 => rfl
  | k + 1 => by simp [aheadL, aheadL_length zs k]
theorem aheadL_at (zs : List Int) : ∀ k i, i < k → g (aheadL zs k) i = prevOf (lastP zs (key zs i) i)
  | 0, i, h => by omega
  | k + 1, i, h => by
    by_cases e : i = k
    · subst e
      simp [aheadL, g, aheadL_length]
    · rw [aheadL, g_append_left _ _ _ (by rw [aheadL_length]; omega)]
      exact aheadL_at zs k i (by omega)
theorem key_inj (zs : List Int) (i j : Nat) (hb : ∀ i, 0 ≤ g zs i ∧ g zs i ≤ 255) (h : key zs i = key zs j) : g zs i = g zs j ∧ g zs (i + 1) = g zs (j + 1) ∧ g zs (i + 2) = g zs (j + 2) := by
  have := hb i; have := hb (i + 1); have := hb (i + 2); have := hb j; have := hb (j + 1); have := hb (j + 2)
  unfold key at h
  omega
theorem key_bd (zs : List Int) (i : Nat) (hb : ∀ i, 0 ≤ g zs i ∧ g zs i ≤ 255) : 0 ≤ key zs i ∧ key zs i ≤ 16777215 := by
  have := hb i; have := hb (i + 1); have := hb (i + 2)
  unfold key
  omega
/-- Places with other keys have fewer than three bytes alike. -/
theorem lb_small (zs : List Int) (a j : Nat) (h : key zs (a - j) ≠ key zs a) : lb zs a j < 3 := by
  rcases Nat.lt_or_ge (lb zs a j) 3 with h3 | h3
  · exact h3
  · refine absurd ?_ h
    have e0 := lk_eq zs (most zs a) (a - j) a 0 (by unfold lb at h3; omega)
    have e1 := lk_eq zs (most zs a) (a - j) a 1 (by unfold lb at h3; omega)
    have e2 := lk_eq zs (most zs a) (a - j) a 2 (by unfold lb at h3; omega)
    simp only [Nat.add_zero] at e0
    unfold key
    rw [e0, e1, e2]
theorem lb_three (zs : List Int) (a j : Nat) (hb : ∀ i, 0 ≤ g zs i ∧ g zs i ≤ 255) (hm : 3 ≤ most zs a) (h : key zs (a - j) = key zs a) : 3 ≤ lb zs a j := by
  obtain ⟨e0, e1, e2⟩ := key_inj zs _ _ hb h
  refine lk_ge zs (a - j) a (most zs a) 3 hm (fun k hk => ?_)
  match k, hk with
  | 0, _ => exact e0
  | 1, _ => exact e1
  | 2, _ => exact e2

/-- What is known when the backs up to c have been tried. -/
def Inv (zs : List Int) (a l bk c : Nat) : Prop := (l = 0 ∧ bk = 0 ∧ (best zs a c).1 < 3) ∨ (3 ≤ l ∧ best zs a c = (l, bk))

theorem Inv.skip {zs : List Int} {a l bk c : Nat} (h : Inv zs a l bk c) (k : Nat) (hk : ∀ i, c < i → i ≤ c + k → lb zs a i < 3) : Inv zs a l bk (c + k) := by
  rcases h with ⟨h1, h2, h3⟩ | ⟨h1, h2⟩
  · rcases best_small zs a c k hk with ⟨_, h4⟩ | ⟨h4, _⟩
    · exact .inl ⟨h1, h2, h4⟩
    · omega
  · rcases best_small zs a c k hk with ⟨h3, _⟩ | ⟨_, h4⟩
    · rw [h2] at h3; simp at h3; omega
    · exact .inr ⟨h1, by rw [h4, h2]⟩
theorem Inv.len {zs : List Int} {a l bk c : Nat} (h : Inv zs a l bk c) : l ≤ most zs a := by
  rcases h with ⟨h1, _⟩ | ⟨_, h2⟩
  · omega
  · have := best_le zs a c; rw [h2] at this; exact this
theorem Inv.better {zs : List Int} {a l bk c : Nat} (h : Inv zs a l bk c) (h3 : 3 ≤ lb zs a (c + 1)) (hl : l < lb zs a (c + 1)) : Inv zs a (lb zs a (c + 1)) (c + 1) (c + 1) := by
  refine .inr ⟨h3, best_take zs a c ?_⟩
  rcases h with ⟨_, _, h4⟩ | ⟨_, h4⟩
  · omega
  · rw [h4]; exact hl
theorem Inv.worse {zs : List Int} {a l bk c : Nat} (h : Inv zs a l bk c) (h3 : 3 ≤ lb zs a (c + 1)) (hl : ¬ l < lb zs a (c + 1)) : Inv zs a l bk (c + 1) := by
  rcases h with ⟨h4, _, _⟩ | ⟨h4, h5⟩
  · omega
  · exact .inr ⟨h4, by rw [best_skip, h5]; rw [h5]; simp; omega⟩
theorem Inv.mt {zs : List Int} {a l bk : Nat} (h : Inv zs a l bk (min 256 a)) : mt zs a = (l, bk) := by
  unfold Lz.mt
  rcases h with ⟨h1, h2, h3⟩ | ⟨h1, h2⟩
  · rw [if_pos h3, h1, h2]
  · rw [h2, if_neg (by simp; omega)]
theorem Inv.full {zs : List Int} {a l bk c : Nat} (h : Inv zs a l bk c) (hm : 3 ≤ most zs a) (hl : most zs a ≤ l) (hc : c ≤ min 256 a) : Lz.mt zs a = (l, bk) := by
  rcases h with ⟨h1, _, _⟩ | ⟨h1, h2⟩
  · omega
  · have hle : l ≤ most zs a := by have := best_le zs a c; rw [h2] at this; exact this
    have := best_full zs a c (by rw [h2]; simp; omega) (min 256 a - c)
    rw [show c + (min 256 a - c) = min 256 a by omega, h2] at this
    exact Inv.mt (.inr ⟨h1, this⟩)

/-- How many backs are tried, when the next place is pl. -/
def cov (a : Nat) (pl : Int) : Nat := min 256 ((a : Int) - 1 - pl).toNat

theorem Inv.start (zs : List Int) (a : Nat) : Inv zs a 0 0 (cov a (prevOf (lastP zs (key zs a) a))) := by
  have h0 : Inv zs a 0 0 0 := .inl ⟨rfl, rfl, by simp [best]⟩
  have hs := h0.skip (cov a (prevOf (lastP zs (key zs a) a))) (fun i h1 h2 => lb_small zs a i ?_)
  · simpa using hs
  · have h2' : i ≤ ((a : Int) - 1 - prevOf (lastP zs (key zs a) a)).toNat := by unfold cov at h2; omega
    cases h : lastP zs (key zs a) a with
    | none =>
      rw [h] at h2'; simp only [prevOf] at h2'
      exact lastP_none zs _ a h (a - i) (by omega)
    | some n =>
      rw [h] at h2'; simp only [prevOf] at h2'
      obtain ⟨h3, _, h5⟩ := lastP_some zs _ a n h
      exact h5 (a - i) (by omega) (by omega)
/-- From a place that was tried on to the one ahead of it. -/
theorem Inv.next {zs : List Int} {a l bk p : Nat} (hp : p < a) (h256 : a - p ≤ 256) (hk : key zs p = key zs a) (h : Inv zs a l bk (a - p)) : Inv zs a l bk (cov a (prevOf (lastP zs (key zs p) p))) := by
  have hlt := prevOf_lt zs (key zs p) p
  have hs := h.skip (cov a (prevOf (lastP zs (key zs p) p)) - (a - p)) (fun i h1 h2 => lb_small zs a i ?_)
  · have e : a - p + (cov a (prevOf (lastP zs (key zs p) p)) - (a - p)) = cov a (prevOf (lastP zs (key zs p) p)) := by unfold cov; omega
    rw [e] at hs; exact hs
  · have h2' : i ≤ ((a : Int) - 1 - prevOf (lastP zs (key zs p) p)).toNat := by unfold cov at h2; omega
    rw [← hk]
    cases hq : lastP zs (key zs p) p with
    | none =>
      rw [hq] at h2'; simp only [prevOf] at h2'
      exact lastP_none zs _ p hq (a - i) (by omega)
    | some n =>
      rw [hq] at h2'; simp only [prevOf] at h2'
      obtain ⟨h3, _, h5⟩ := lastP_some zs _ p n hq
      exact h5 (a - i) (by omega) (by omega)
theorem prevOf_key (zs : List Int) (q : Int) (k : Nat) (h : 0 ≤ prevOf (lastP zs q k)) : key zs (prevOf (lastP zs q k)).toNat = q := by
  cases hq : lastP zs q k with
  | none => rw [hq] at h; simp [prevOf] at h
  | some n => simpa [prevOf] using (lastP_some zs q k n hq).2.1
end Go.Proofs.YtchcejjoncihkaaGreatDoor.Lz

/- The leaves of layer 1 (lz): what likewise, trio, the reference's like, and few do, called by themselves. -/
namespace Go.Proofs.YtchcejjoncihkaaGreatDoor
open Go.RowKit
open Lz (g lk)




set_option maxHeartbeats 1600000 in
theorem likewise_any (b off len cap p a m : Nat) (zs : List Int) (w : World) (hz : zs.length = len) (hs : Seg w b off zs) (hp : p + m ≤ len) (ha : a + m ≤ len) (hl : len ≤ 1000000) :
    Calls Tryz.prog 229 #[.slice (some ⟨b, off, none⟩) len cap, .int .i64 p, .int .i64 a, .int .i64 m] w fun e w' => e = .returned (.int .i64 (lk zs p a m)) ∧ ∃ n, w' = w.drewN n := by
  go_enter Tryz.func229, Tryz.ntmps229
  go_wp2
  go_loopw [9] (fun i wr => ∃ k : Nat, k ≤ m ∧ i = .int .i64 k ∧ (∀ j, j < k → g zs (p + j) = g zs (a + j)) ∧ ∃ n, wr = w.drewN n) (fun i _ => m - (intOf i).toNat)
  case atStart => exact ⟨0, Nat.zero_le _, rfl, fun j hj => by omega, 0, rfl⟩
  case round =>
    obtain ⟨k, hk, rfl, heq, n, rfl⟩ := hrel
    by_cases hlt : k < m
    · have hd : decide ((k : Int) < (m : Int)) = true := by simp; omega
      have c1 := hs (p + k) (by omega)
      have c2 := hs (a + k) (by omega)
      have i1 : (0 : Int) ≤ (p : Int) + k := by omega
      have i2 : (p : Int) + k < len := by omega
      have i3 : (0 : Int) ≤ (a : Int) + k := by omega
      have i4 : (a : Int) + k < len := by omega
      have H : Hid (∀ j, j < k → g zs (p + j) = g zs (a + j)) := heq
      clear heq
      go_wp2
      go_quiet (fail)
      go_wp2
      · have he : (g zs (p + k) == g zs (a + k)) = true := by assumption
        go_roundw
        case rel =>
          refine ⟨k + 1, by omega, by go_num, fun j hj => ?_, _, rfl⟩
          by_cases hjk : j < k
          · exact H.out j hjk
          · rw [show j = k by omega]; exact beq_iff_eq.1 he
        case measure => simp [intOf]; omega
      · have he : (g zs (p + k) == g zs (a + k)) = false := by assumption
        go_ret
        exact ⟨ret_nat (Lz.lk_unique zs p a m k hk H.out (fun _ => beq_eq_false_iff_ne.1 he)).symm, dr2 _ _ _⟩
    · have hd : decide ((k : Int) < (m : Int)) = false := by simp; omega
      have H : Hid (∀ j, j < k → g zs (p + j) = g zs (a + j)) := heq
      clear heq
      go_wp2
      go_quiet (fail)
      go_wp2
      go_ret
      exact ⟨ret_nat (Lz.lk_unique zs p a m k hk H.out (fun h => absurd h hlt)).symm, dr2 _ _ _⟩

theorem or_nat (A B M i : Nat) (hM : 2 ^ i = M) (h2 : A < M) (h4 : B * M + M ≤ 4294967296) : bits .or .i64 (A : Int) ((B * M : Nat) : Int) = ((A + B * M : Nat) : Int) := by
  have hor : A ||| B * M = A + B * M := by
    rw [← hM, Nat.or_comm, Nat.mul_comm, ← Nat.two_pow_add_eq_or_of_lt (by omega) B, Nat.add_comm]
  have hs : A + B * M < 4294967296 := by omega
  show IntKind.i64.wrap ((BitVec.ofInt 64 (A : Int) ||| BitVec.ofInt 64 ((B * M : Nat) : Int)).toNat : Int) = _
  rw [BitVec.toNat_or, BitVec.ofInt_natCast, BitVec.ofInt_natCast, BitVec.toNat_ofNat, BitVec.toNat_ofNat, Nat.mod_eq_of_lt (by omega), Nat.mod_eq_of_lt (by omega), hor]
  generalize A + B * M = C at *
  rw [IntKind.wrap_i64]
  omega
theorem or_256 (a b : Int) (h1 : 0 ≤ a) (h2 : a < 256) (h3 : 0 ≤ b) (h4 : b < 256) : bits .or .i64 a (b * 256) = a + b * 256 := by
  obtain ⟨A, rfl⟩ := Int.eq_ofNat_of_zero_le h1
  obtain ⟨B, rfl⟩ := Int.eq_ofNat_of_zero_le h3
  have := or_nat A B 256 8 rfl (by omega) (by omega)
  rw [show ((B * 256 : Nat) : Int) = (B : Int) * 256 by omega] at this
  rw [this]; omega
theorem or_65536 (a b : Int) (h1 : 0 ≤ a) (h2 : a < 65536) (h3 : 0 ≤ b) (h4 : b < 256) : bits .or .i64 a (b * 65536) = a + b * 65536 := by
  obtain ⟨A, rfl⟩ := Int.eq_ofNat_of_zero_le h1
  obtain ⟨B, rfl⟩ := Int.eq_ofNat_of_zero_le h3
  have := or_nat A B 65536 16 rfl (by omega) (by omega)
  rw [show ((B * 65536 : Nat) : Int) = (B : Int) * 65536 by omega] at this
  rw [this]; omega

set_option maxHeartbeats 1600000 in
theorem trio_any (b off len cap a : Nat) (zs : List Int) (w : World) (hz : zs.length = len) (hs : Seg w b off zs) (ha : a + 3 ≤ len) (hl : len ≤ 1000000) (hb : ∀ i, i < len → 0 ≤ g zs i ∧ g zs i ≤ 255) :
    Calls Tryz.prog 228 #[.slice (some ⟨b, off, none⟩) len cap, .int .i64 a] w fun e w' => e = .returned (.int .i64 (Lz.key zs a)) ∧ ∃ n, w' = w.drewN n := by
  unfold Lz.key
  have c1 := hs a (by omega)
  have c2 := hs (a + 1) (by omega)
  have c3 := hs (a + 2) (by omega)
  have i2 : (a : Int) + 2 < len := by omega
  obtain ⟨b1, b2⟩ := hb a (by omega)
  obtain ⟨b3, b4⟩ := hb (a + 1) (by omega)
  obtain ⟨b5, b6⟩ := hb (a + 2) (by omega)
  clear hs hb
  go_enter Tryz.func228, Tryz.ntmps228
  go_wp2
  go_quiet (fail)
  go_wp2
  go_ret
  refine ⟨?_, _, rfl⟩
  show Ending.returned (.int .i64 (bits BinOp.or IntKind.i64 (bits BinOp.or IntKind.i64 (g zs a) (g zs (a + 1) * 256)) (g zs (a + 2) * 65536))) = _
  rw [or_256 (g zs a) (g zs (a + 1)) b1 (by omega) b3 (by omega), or_65536 (g zs a + g zs (a + 1) * 256) (g zs (a + 2)) (by omega) (by omega) b5 (by omega)]
  exact ret_int (by omega)

end Go.Proofs.YtchcejjoncihkaaGreatDoor

/- The walks of newTrios, addUpTo and match: what the table of threes holds, and that match finds the longest and nearest match. -/
namespace Go.Proofs.YtchcejjoncihkaaGreatDoor
set_option linter.unusedVariables false
open Go.RowKit Go.Maps
open Lz (g lk key lastP prevOf aheadL)

theorem mapLaw : Keyed Tryz.prog 3 := int_keyed Tryz.underlying3
theorem zeroInt (w : World) : (zeroValue 3).run Tryz.prog w = .ok (.int .i64 0) w := by kernel_rfl
theorem infoInt : (Tryz.prog.info? 3).map (fun i => (i.zero, i.size, i.bytes)) = some (some (.int .i64 0), 1, 8) := by kernel_rfl

/-- The table of threes at block p: the places below k of zs are taken in. -/
def Tr (w : World) (B p : Nat) (zs : List Int) (k : Nat) : Prop :=
  ∃ (mb : Nat) (v : Value) (D : DataW Unit), w.heap[p]? = some (.cells #[.map (some mb), v] 270 (0, 0)) ∧ B ≤ p ∧ B ≤ mb ∧
    w.ownsRow B 3 1 v k ((aheadL zs k).map (Value.int .i64)) ∧ w.ownsMap Tryz.prog 3 (plainElem Tryz.prog 3) mb k D ∧
    (∀ q : Int, Maps.has D (.int .i64 q) = (lastP zs q k).isSome) ∧ (∀ (q : Int) (n : Nat), lastP zs q k = some n → D.atKey (.int .i64 q) (.lit (.int .i64 0)) = .lit (.int .i64 n))





theorem Tr.drewN {w : World} {B p k : Nat} {zs : List Int} (h : Tr w B p zs k) (n : Nat) : Tr (w.drewN n) B p zs k := h
theorem Tr.kept {w w' : World} {B p k : Nat} {zs : List Int} (h : Tr w B p zs k) (hk : KeepN 5 w w') : Tr w' B p zs k := by
  obtain ⟨mb, v, D, h1, h2, h3, h4, h5, h6⟩ := h
  refine ⟨mb, v, D, hk _ _ h1 (by simp), h2, h3, ?_, ?_, h6⟩
  · refine ⟨h4.1, ?_⟩
    rcases h4.2 with hn | ⟨g, cap, cur, rfl, hb, hgg, rest⟩
    · exact .inl hn
    · exact .inr ⟨g, cap, cur, rfl, hb, hk _ _ hgg (by simp), rest⟩
  · obtain ⟨es, clock, hb, r⟩ := h5
    exact ⟨es, clock, hk _ _ hb (by simp), r⟩

set_option maxHeartbeats 1600000 in
theorem newTrios_any (w : World) (zs : List Int) :
    Calls Tryz.prog 209 #[] w fun e w' => e = .returned (.pointer (some ⟨w.heap.size + 1, 0, none⟩)) ∧ Tr w' w.heap.size (w.heap.size + 1) zs 0 ∧ Below w.heap.size w w' ∧ KeepT 5 w w' := by
  have hmm := @run_makeMap Tryz.prog
  go_enter Tryz.func209, Tryz.ntmps209
  go_wp2
  go_ret
  refine ⟨rfl, ⟨w.heap.size, .slice none 0 0, .map [], ?_, by omega, Nat.le_refl _, World.ownsRow_nil _ _ _ _, (World.ownsMap_made w _ _ _).alloc _, fun q => rfl, fun q n hq => by simp [lastP] at hq⟩, ?_, ?_⟩
  · have := heap_alloc_new (w.alloc (Obj.map #[] 0)) (Obj.cells #[Value.map (some w.heap.size), Value.slice none 0 0] 270)
    simpa using this
  · exact ((Below.refl _ _).alloc (Nat.le_refl _) _).alloc (by simp) _
  · exact ((KeepT.refl _ _).alloc _).alloc _

theorem cell_of_pair {w : World} {p : Nat} {x y : Value} {t : TypeId} (h : w.heap[p]? = some (Obj.cells #[x, y] t (0, 0))) : w.cell? ⟨p, 0, none⟩ = some x ∧ w.cell? ⟨p, 1, none⟩ = some y ∧ w.frozen? ⟨p, 1, none⟩ = false := by
  refine ⟨by rw [cell_of_row w p 0 _ _ _ h]; rfl, by rw [cell_of_row w p 1 _ _ _ h]; rfl, ?_⟩
  simp [World.frozen?, h]

theorem pair_setCell {w : World} {p : Nat} {x y : Value} {t : TypeId} (h : w.heap[p]? = some (Obj.cells #[x, y] t (0, 0))) (u : Value) : (w.setCell ⟨p, 1, none⟩ u).heap[p]? = some (Obj.cells #[x, u] t (0, 0)) := by
  simp [World.setCell, Array.getElem?_modify, h]

theorem pair_kept {w w1 : World} {B p t mb nq : Nat} {v : Value} {xs : List Value} {o : Obj} {D : DataW Unit} (h1 : w.heap[p]? = some (Obj.cells #[.map (some mb), v] 270 (0, 0))) (h4 : w.ownsRow B 3 1 v t xs)
    (h5 : w.ownsMap Tryz.prog 3 (plainElem Tryz.prog 3) mb t D) (a2 : ((w.drewN nq).alloc o).grownBy w1 v.ownBlock) :
    w1.cell? ⟨p, 0, none⟩ = some (.map (some mb)) ∧ w1.cell? ⟨p, 1, none⟩ = some v ∧ w1.frozen? ⟨p, 1, none⟩ = false ∧ w1.ownsMap Tryz.prog 3 (plainElem Tryz.prog 3) mb t D := by
  have hp0 : ((w.drewN nq).alloc o).heap[p]? = some (Obj.cells #[.map (some mb), v] 270 (0, 0)) := by rw [Below.heap_alloc (w.drewN nq) _ _ (heap_lt (w := w.drewN nq) h1)]; exact h1
  have hp1 : w1.heap[p]? = some (Obj.cells #[.map (some mb), v] 270 (0, 0)) := by
    rw [a2.block p (heap_lt hp0) (owns_ne (w := w) h4 h1 (by simp))]; exact hp0
  obtain ⟨c0, c1, c2⟩ := cell_of_pair hp1
  refine ⟨c0, c1, c2, ?_⟩
  have h5' : ((w.drewN nq).alloc o).ownsMap Tryz.prog 3 (plainElem Tryz.prog 3) mb t D := World.ownsMap.alloc (w := w.drewN nq) h5 _
  refine h5'.kept a2 ?_
  obtain ⟨es, clock, hb, _⟩ := h5
  exact owns_ne (w := w) h4 hb (by simp)

theorem atKey_int {D : DataW Unit} {k : Lit} {z : DataW Unit} {a b : Int} (h : D.atKey k z = .lit (.int .i64 a)) (h' : D.atKey k z = .lit (.int .i64 b)) : a = b := by
  rw [h] at h'; simpa using h'

/-- One place more is taken in. -/
theorem tr_step {w wr w1 w2 : World} {B p t mb nq : Nat} {zs : List Int} {v v' : Value} {D : DataW Unit} {o : Obj}
    (h1 : wr.heap[p]? = some (Obj.cells #[.map (some mb), v] 270 (0, 0))) (h2 : B ≤ p) (h3 : B ≤ mb) (h4 : wr.ownsRow B 3 1 v t ((aheadL zs t).map (Value.int .i64)))
    (h5 : wr.ownsMap Tryz.prog 3 (plainElem Tryz.prog 3) mb t D) (h6 : ∀ q : Int, Maps.has D (.int .i64 q) = (lastP zs q t).isSome)
    (h7 : ∀ (q : Int) (n : Nat), lastP zs q t = some n → D.atKey (.int .i64 q) (.lit (.int .i64 0)) = .lit (.int .i64 n)) (X : Int) (hX : X = prevOf (lastP zs (key zs t) t))
    (hw : Below B w wr) (hk : KeepT 5 w wr) (hBs : B ≤ wr.heap.size)
    (a1 : w1.ownsRow B 3 1 v' (t + 1) ((aheadL zs t).map (Value.int .i64) ++ [.int .i64 X])) (a2 : ((wr.drewN nq).alloc o).grownBy w1 v.ownBlock)
    (m1 : w2.ownsMap Tryz.prog 3 (plainElem Tryz.prog 3) mb (t + 1) (D.put (.int .i64 (key zs t)) (.lit (.int .i64 t)))) (m2 : (w1.setCell ⟨p, 1, none⟩ v').grownBy w2 (some mb)) :
    Tr w2 B p zs (t + 1) ∧ Below B w w2 ∧ KeepT 5 w w2 := by
  have hp0 : ((wr.drewN nq).alloc o).heap[p]? = some (Obj.cells #[.map (some mb), v] 270 (0, 0)) := by rw [Below.heap_alloc (wr.drewN nq) _ _ (heap_lt (w := wr.drewN nq) h1)]; exact h1
  have hp1 : w1.heap[p]? = some (Obj.cells #[.map (some mb), v] 270 (0, 0)) := by
    rw [a2.block p (heap_lt hp0) (owns_ne (w := wr) h4 h1 (by simp))]; exact hp0
  have hp2 := pair_setCell hp1 v'
  have hpm : p ≠ mb := by
    obtain ⟨es, clock, hb, _⟩ := h5
    intro e; subst e; rw [h1] at hb; simp at hb
  have hp3 : w2.heap[p]? = some (Obj.cells #[.map (some mb), v'] 270 (0, 0)) := by
    rw [m2.block p (heap_lt hp2) (by simpa using hpm)]; exact hp2
  have hv : v'.ownBlock ≠ some p := fun e => owns_ne a1 hp1 (by simp) e.symm
  have b1 : (w1.setCell ⟨p, 1, none⟩ v').ownsRow B 3 1 v' (t + 1) ((aheadL zs t).map (Value.int .i64) ++ [.int .i64 X]) := by
    refine ⟨a1.1, ?_⟩
    rcases a1.2 with hn | ⟨g, cap, cur, rfl, hb, hgg, rest⟩
    · exact .inl hn
    · refine .inr ⟨g, cap, cur, rfl, hb, ?_, rest⟩
      rw [Below.heap_setCell _ _ _ _ (by simpa [Value.ownBlock] using hv)]; exact hgg
  have hmv : v'.ownBlock ≠ some mb := by
    obtain ⟨es, clock, hb, _⟩ := h5
    have hb0 : ((wr.drewN nq).alloc o).heap[mb]? = some (Obj.map es clock) := by rw [Below.heap_alloc (wr.drewN nq) _ _ (heap_lt (w := wr.drewN nq) hb)]; exact hb
    have hb1 : w1.heap[mb]? = some (Obj.map es clock) := by rw [a2.block mb (heap_lt hb0) (owns_ne (w := wr) h4 hb (by simp))]; exact hb0
    exact fun e => owns_ne a1 hb1 (by simp) e.symm
  have b2 := b1.kept m2 (.inr hmv)
  have hsz1 : wr.heap.size ≤ ((wr.drewN nq).alloc o).heap.size := by simp
  have hsz2 := a2.size
  have bel0 : Below B w ((wr.drewN nq).alloc o) := (below_drewN hw nq).alloc (by simpa using hBs) _
  have bel1 : Below B w w1 := bel0.grown a2 (by omega) (fun k e => by have := (h4.lt k e).1; omega)
  have bel2 : Below B w (w1.setCell ⟨p, 1, none⟩ v') := bel1.setCell (by simpa using h2) _
  have bel3 : Below B w w2 := bel2.grown m2 (by simp [World.setCell]; omega) (fun k e => by cases e; exact h3)
  have k0 : KeepT 5 w ((wr.drewN nq).alloc o) := (hk.drewN nq).alloc _
  have k1 : KeepT 5 w w1 := k0.grown a2 (fun k e cur fz hc => by
    have h4' : ((wr.drewN nq).alloc o).ownsRow B 3 1 v t ((aheadL zs t).map (Value.int .i64)) := World.ownsRow.alloc (w := wr.drewN nq) h4 _
    exact owns_ne h4' hc (by simp) e.symm)
  have k2 : KeepT 5 w (w1.setCell ⟨p, 1, none⟩ v') := k1.setCell _ (fun cur fz hc => by rw [hp1] at hc; simp at hc)
  have k3 : KeepT 5 w w2 := k2.grown m2 (fun k e cur fz hc => by
    cases e
    obtain ⟨es, clock, hb, _⟩ := h5
    have hb0 : ((wr.drewN nq).alloc o).heap[mb]? = some (Obj.map es clock) := by rw [Below.heap_alloc (wr.drewN nq) _ _ (heap_lt (w := wr.drewN nq) hb)]; exact hb
    have hb1 : w1.heap[mb]? = some (Obj.map es clock) := by rw [a2.block mb (heap_lt hb0) (owns_ne (w := wr) h4 hb (by simp))]; exact hb0
    rw [Below.heap_setCell _ _ _ _ (fun e => hpm e.symm), hb1] at hc
    simp at hc)
  refine ⟨⟨mb, v', _, hp3, h2, h3, ?_, m1, fun q => ?_, fun q n hq => ?_⟩, bel3, k3⟩
  · rw [aheadL, List.map_append, ← hX]; exact b2
  · have hD := h5.isMap
    by_cases e : q = key zs t
    · subst e
      rw [has_put_same (k := .int .i64 (key zs t)) hD (by simp [WideAt.IsKeyLit])]
      simp [lastP]
    · rw [has_put_other (by simpa using e), h6 q, lastP, if_neg (fun e' => e e'.symm)]
  · have hD := h5.isMap
    by_cases e : q = key zs t
    · subst e
      rw [atKey_put_same (k := .int .i64 (key zs t)) hD (by simp [WideAt.IsKeyLit])]
      simp [lastP] at hq
      rw [hq]
    · rw [atKey_put_other (by simpa using e)]
      rw [lastP, if_neg (fun e' => e e'.symm)] at hq
      exact h7 q n hq

set_option maxHeartbeats 1600000 in
theorem addUpTo_any (b off len cap p B k e : Nat) (zs : List Int) (w : World) (hz : zs.length = len) (hs : Seg w b off zs) (hbB : b < B) (hB : B ≤ w.heap.size) (hl : len ≤ 1000000)
    (hby : ∀ i, 0 ≤ g zs i ∧ g zs i ≤ 255) (ht : Tr w B p zs k) (he : e ≤ len) :
    Calls Tryz.prog 213 #[.pointer (some ⟨p, 0, none⟩), .slice (some ⟨b, off, none⟩) len cap, .int .i64 e] w fun r w' => r = .returned (.tuple #[]) ∧ Tr w' B p zs (max k (min e (len - 2))) ∧ Below B w w' ∧ KeepT 5 w w' := by
  obtain ⟨mb, v, D, h1, h2, h3, h4, h5, h6, h7⟩ := id ht
  obtain ⟨ao, c, rfl⟩ := owns_shape h4
  obtain ⟨c0, c1, _⟩ := cell_of_pair h1
  obtain ⟨E, hE⟩ : ∃ E : Int, (if (len : Int) - 3 + 1 < e then (len : Int) - 3 + 1 else e) = E := ⟨_, rfl⟩
  have hE1 : E ≤ (len : Int) - 2 := by rw [← hE]; split <;> omega
  have hE2 : E ≤ (e : Int) := by rw [← hE]; split <;> omega
  have hE3 : (e : Int) ≤ E ∨ (len : Int) - 2 ≤ E := by rw [← hE]; split <;> omega
  have HT : Hid (Tr w B p zs k) := ht
  clear h1 h4 h5 h6 h7 h2 h3 ht
  go_enter Tryz.func213, Tryz.ntmps213
  go_wp2_with fail
  clear c0 c1
  go_loopw [6] (fun i wr => ∃ t : Nat, k ≤ t ∧ ((t : Int) ≤ E ∨ t = k) ∧ i = .int .i64 t ∧ Tr wr B p zs t ∧ Below B w wr ∧ KeepT 5 w wr) (fun i _ => E.toNat - (intOf i).toNat)
  case atStart => exact ⟨k, Nat.le_refl _, .inr rfl, rfl, HT.out, Below.refl _ _, KeepT.refl _ _⟩
  case round =>
    obtain ⟨t, hkt, htE, rfl, hT, hbel, hkeep⟩ := hrel
    by_cases hlt : (t : Int) < E
    · obtain ⟨mb, v, D, h1, h2, h3, h4, h5, h6, h7⟩ := id hT
      have hsz := hbel.size
      have hs' : Seg wr b off zs := fun i hi => (hbel.cell (by exact hbB)).trans (hs i hi)
      go_wp2_with fail
      refine (trio_any b off len cap t zs _ hz hs' (by omega) hl (fun i _ => hby i)).mono ?_
      rintro r w1 ⟨rfl, nq, rfl⟩
      obtain ⟨c0, c1, f1⟩ := cell_of_pair h1
      have hkb := Lz.key_bd zs t hby
      have hkw : (Lit.int .i64 (key zs t)).wf = true := WalkArith.wf_i64 (by omega)
      have hmp : mb ≠ (⟨p, 1, none⟩ : Addr).block := by
        obtain ⟨es, clock, hb, _⟩ := h5
        intro e; subst e; rw [h1] at hb; simp at hb
      obtain ⟨i0, hi, hz0, hz1, hz2⟩ := info_parts infoInt
      have HH : Hid ((∀ q : Int, Maps.has D (.int .i64 q) = (lastP zs q t).isSome) ∧ (∀ (q : Int) (n : Nat), lastP zs q t = some n → D.atKey (.int .i64 q) (.lit (.int .i64 0)) = .lit (.int .i64 n))) := ⟨h6, h7⟩
      clear h6 h7 hE
      cases hq : lastP zs (key zs t) t with
      | none =>
        have hhas : Maps.has D (.int .i64 (key zs t)) = false := by rw [HH.out.1, hq]; rfl
        have HQ : Hid (lastP zs (key zs t) t = none) := hq
        clear hq
        go_wp2_with (first
          | (at_lookup; refine wpList_lookup_own_ok_int _ rfl _ _ 61 rfl 3 3 .i64 mapLaw Tryz.underlying61 Tryz.underlying3 (zeroInt _) mb t D rfl h5 _ _ rfl (keyOf_int_mk Tryz.underlying3 hkw) ?_; intro x hat hwc)
          | (at_builtin; refine wpList_append_lies _ rfl _ _ 31 rfl B 3 i0 (.int .i64 0) 1 8 Tryz.underlying31 hi hz0 hz1 hz2 rfl (by decide) _ _ _ rfl (World.ownsRow.alloc (w := wr.drewN nq) h4 _) ⟨wr.heap.size, 0, none⟩ 1 1 [.int .i64 (-1)] rfl rfl (cell_one_new (wr.drewN nq) _ _) (ints_oneCell .i64 [(-1)]) (by decide) (by unfold maxLen; omega) (by omega) (by simp; omega) (wr.heap.size + 1) (by simp) ?_; intro gg cc w1 a1 a2 _ _; obtain ⟨d0, d1, d2, b1⟩ := pair_kept h1 h4 h5 a2; clear c0 c1 f1)
          | (at_mapUpdate; refine wpList_mapUpdate_own _ rfl _ _ _ 61 rfl 3 3 mapLaw Tryz.underlying61 _ mb t D rfl (b1.setCell hmp _) (by unfold maxLen; omega) _ _ _ rfl rfl (keyOf_int_mk Tryz.underlying3 hkw) _ [] (plainElem_int Tryz.underlying3 (WalkArith.wf_i64 (by omega))) ?_; intro w2 m1 m2))
        have R := tr_step (w := w) h1 h2 h3 h4 h5 HH.out.1 HH.out.2 (-1) (by rw [HQ.out]; rfl) hbel hkeep (by omega) a1 a2 m1 m2
        go_roundw
        case rel => exact ⟨t + 1, by omega, .inl (by omega), by go_num, R.1, R.2.1, R.2.2⟩
        case measure => simp [intOf]; omega
      | some n =>
        have hhas : Maps.has D (.int .i64 (key zs t)) = true := by rw [HH.out.1, hq]; rfl
        have HQ : Hid (lastP zs (key zs t) t = some n) := hq
        clear hq
        go_wp2_with (first
          | (at_lookup; refine wpList_lookup_own_ok_int _ rfl _ _ 61 rfl 3 3 .i64 mapLaw Tryz.underlying61 Tryz.underlying3 (zeroInt _) mb t D rfl h5 _ _ rfl (keyOf_int_mk Tryz.underlying3 hkw) ?_; intro x hat hwc; have HX : Hid (x = (n : Int)) := atKey_int hat (HH.out.2 _ n HQ.out); clear hat)
          | (at_builtin; refine wpList_append_lies _ rfl _ _ 31 rfl B 3 i0 (.int .i64 0) 1 8 Tryz.underlying31 hi hz0 hz1 hz2 rfl (by decide) _ _ _ rfl (World.ownsRow.alloc (w := wr.drewN nq) h4 _) ⟨wr.heap.size, 0, none⟩ 1 1 [.int .i64 x] rfl rfl (cell_one_new (wr.drewN nq) _ _) (ints_oneCell .i64 [x]) (by decide) (by unfold maxLen; omega) (by omega) (by simp; omega) (wr.heap.size + 1) (by simp) ?_; intro gg cc w1 a1 a2 _ _; obtain ⟨d0, d1, d2, b1⟩ := pair_kept h1 h4 h5 a2; clear c0 c1 f1)
          | (at_mapUpdate; refine wpList_mapUpdate_own _ rfl _ _ _ 61 rfl 3 3 mapLaw Tryz.underlying61 _ mb t D rfl (b1.setCell hmp _) (by unfold maxLen; omega) _ _ _ rfl rfl (keyOf_int_mk Tryz.underlying3 hkw) _ [] (plainElem_int Tryz.underlying3 (WalkArith.wf_i64 (by omega))) ?_; intro w2 m1 m2))
        have R := tr_step (w := w) h1 h2 h3 h4 h5 HH.out.1 HH.out.2 x (by rw [HQ.out, HX.out]; rfl) hbel hkeep (by omega) a1 a2 m1 m2
        go_roundw
        case rel => exact ⟨t + 1, by omega, .inl (by omega), by go_num, R.1, R.2.1, R.2.2⟩
        case measure => simp [intOf]; omega
    · go_wp2
      go_end0
      have e : max k (min e (len - 2)) = t := by omega
      exact ⟨rfl, by rw [e]; exact hT, hbel, hkeep⟩

theorem owns_cells {w : World} {B e n : Nat} {v : Value} {xs : List Int} (h : w.ownsRow B e 1 v n (xs.map (Value.int .i64))) (hn : 0 < n) :
    ∃ gb c, v = .slice (some ⟨gb, 0, none⟩) n c ∧ ∀ i, i < n → w.cell? ⟨gb, i, none⟩ = some (.int .i64 (g xs i)) := by
  obtain ⟨gb, c, rfl, _, _⟩ := h.form hn
  refine ⟨gb, c, rfl, fun i hi => ?_⟩
  have hlen : xs.length = n := by have := h.1; simpa using this
  rw [h.cellAt i (by omega)]
  simp [g, hlen, hi]

theorem look_any {w : World} {mb t : Nat} {D : DataW Unit} (h5 : w.ownsMap Tryz.prog 3 (plainElem Tryz.prog 3) mb t D) (q : Int) (hkw : (Lit.int .i64 q).wf = true) :
    ∃ x : Int, D.atKey (.int .i64 q) (.lit (.int .i64 0)) = .lit (.int .i64 x) ∧ ∀ nq, (Instr.lookup 61 (.map (some mb)) (.int .i64 q) true).run Tryz.prog (w.drewN nq) = .ok (.tuple #[.int .i64 x, .bool (Maps.has D (.int .i64 q))]) (w.drewN nq) := by
  obtain ⟨v, ps, _, hv⟩ := h5.look_ok mapLaw Tryz.underlying61 (zeroInt w) (plainElem_int Tryz.underlying3 (by decide)) (keyOf_int_mk Tryz.underlying3 hkw)
  obtain ⟨x, rfl, hx, _⟩ := plainElem_int_inv Tryz.underlying3 hv
  refine ⟨x, congrArg Prod.fst hx, fun nq => ?_⟩
  have h5' : (w.drewN nq).ownsMap Tryz.prog 3 (plainElem Tryz.prog 3) mb t D := h5
  obtain ⟨v', ps', hrun, hv'⟩ := h5'.look_ok mapLaw Tryz.underlying61 (zeroInt (w.drewN nq)) (plainElem_int Tryz.underlying3 (by decide)) (keyOf_int_mk Tryz.underlying3 hkw)
  obtain ⟨x', rfl, hx', _⟩ := plainElem_int_inv Tryz.underlying3 hv'
  have : x' = x := by
    have e1 := congrArg Prod.fst hx; have e2 := congrArg Prod.fst hx'
    exact atKey_int e2 e1
  rw [hrun, this]

set_option maxRecDepth 100000 in
set_option maxHeartbeats 3200000 in
theorem match_any (b off len cap p B k a : Nat) (zs : List Int) (w : World) (hz : zs.length = len) (hs : Seg w b off zs) (hl : len ≤ 1000000)
    (hby : ∀ i, 0 ≤ g zs i ∧ g zs i ≤ 255) (ht : Tr w B p zs k) (ha : a < len) (hk : a + 3 ≤ len → k = a) :
    Calls Tryz.prog 210 #[.pointer (some ⟨p, 0, none⟩), .slice (some ⟨b, off, none⟩) len cap, .int .i64 a] w fun r w' =>
      r = .returned (.tuple #[.int .i64 (Lz.mt zs a).1, .int .i64 (Lz.mt zs a).2]) ∧ ∃ n, w' = w.drewN n := by
  obtain ⟨M, hM⟩ : ∃ M : Nat, M = Lz.most zs a := ⟨_, rfl⟩
  have hM' : M = min 130 (len - a) := by rw [hM, Lz.most, hz]
  have hM1 : M ≤ 130 := by omega
  have hM2 : a + M ≤ len := by omega
  have hmin : (if (len : Int) - a < 130 then (len : Int) - a else 130) = (M : Int) := by split <;> omega
  have HM : Hid (M = Lz.most zs a) := hM
  by_cases hM3 : M < 3
  · have hfin : Lz.mt zs a = (0, 0) := Lz.mt_small zs a (by rw [← hM]; exact hM3)
    rw [hfin]
    clear hfin hM hM'
    go_enter Tryz.func210, Tryz.ntmps210
    go_wp2
    go_ret2
    exact ⟨rfl, 0, rfl⟩
  · obtain rfl : k = a := hk (by omega)
    obtain ⟨mb, v, D, h1, h2, h3, h4, h5, h6, h7⟩ := id ht
    obtain ⟨c0, c1, f1⟩ := cell_of_pair h1
    have hkb := Lz.key_bd zs k hby
    have hkw : (Lit.int .i64 (key zs k)).wf = true := WalkArith.wf_i64 (by omega)
    have htrio : ∀ n, Calls Tryz.prog 228 #[.slice (some ⟨b, off, none⟩) len cap, .int .i64 k] (w.drewN n) fun e w' => e = .returned (.int .i64 (key zs k)) ∧ ∃ m, w' = (w.drewN n).drewN m :=
      fun n => trio_any b off len cap k zs _ hz (hs.drewN n) (by omega) hl (fun i _ => hby i)
    have HT : Hid (∀ n, Calls Tryz.prog 228 #[.slice (some ⟨b, off, none⟩) len cap, .int .i64 k] (w.drewN n) fun e w' => e = .returned (.int .i64 (key zs k)) ∧ ∃ m, w' = (w.drewN n).drewN m) := htrio
    clear htrio hM hM'
    cases hq : lastP zs (key zs k) k with
    | none =>
      have hhas : Maps.has D (.int .i64 (key zs k)) = false := by rw [h6, hq]; rfl
      obtain ⟨x, _, hlook⟩ := look_any h5 (key zs k) hkw
      rw [hhas] at hlook
      have hfin : Lz.mt zs k = (0, 0) := by
        have := Lz.Inv.start zs k
        rw [hq] at this
        exact Lz.Inv.mt (by simpa [prevOf, Lz.cov] using this)
      rw [hfin]
      clear hfin h6 h7 h5 h4 hq
      go_enter Tryz.func210, Tryz.ntmps210
      go_wp2
      go_quiet ((go_at_call 228; exact Calls.quiet_of (HT.out _)))
      go_wp2
      go_ret2
      exact ⟨rfl, _, rfl⟩
    | some n =>
      have hhas : Maps.has D (.int .i64 (key zs k)) = true := by rw [h6, hq]; rfl
      obtain ⟨x, hx, hlook⟩ := look_any h5 (key zs k) hkw
      rw [hhas] at hlook
      obtain rfl : x = (n : Int) := atKey_int hx (h7 _ n hq)
      have hnk := (Lz.lastP_some zs _ k n hq).1
      have hnkey := (Lz.lastP_some zs _ k n hq).2.1
      have hinv : Lz.Inv zs k 0 0 (Lz.cov k (n : Int)) := by
        have := Lz.Inv.start zs k
        rw [hq] at this
        exact this
      obtain ⟨gb, c, rfl, hcells⟩ := owns_cells h4 (by omega)
      have HC : Hid (∀ i, i < k → w.cell? ⟨gb, i, none⟩ = some (.int .i64 (g (aheadL zs k) i))) := hcells
      clear h6 h7 h5 h4 hq hx hcells
      go_enter Tryz.func210, Tryz.ntmps210
      go_wp2
      go_quiet ((go_at_call 228; exact Calls.quiet_of (HT.out _)))
      go_wp2
      go_loopw [6, 7, 9] (fun i6 i7 i9 wr => ∃ (l bk : Nat) (pl : Int), i6 = .int .i64 l ∧ i7 = .int .i64 bk ∧ i9 = .int .i64 pl ∧ -1 ≤ pl ∧ pl < k ∧ (0 ≤ pl → key zs pl.toNat = key zs k) ∧ Lz.Inv zs k l bk (Lz.cov k pl) ∧ ∃ m, wr = w.drewN m)
        (fun _ _ i9 _ => (intOf i9 + 1).toNat)
      case atStart => exact ⟨0, 0, n, rfl, rfl, rfl, by omega, by omega, fun _ => hnkey, hinv, _, rfl⟩
      case round =>
        clear hlook c0 hnkey hinv
        obtain ⟨l, bk, pl, rfl, rfl, rfl, hp1, hp2, hp3, hI, m, rfl⟩ := hrel
        have hlM : l ≤ M := by have := hI.len; rw [← HM.out] at this; exact this
        by_cases d1 : 0 ≤ pl
        · obtain ⟨P, rfl⟩ := Int.eq_ofNat_of_zero_le d1
          have hP : P < k := by omega
          have HP : Hid (key zs P = key zs k) := hp3 d1
          clear hp3
          by_cases d2 : (k : Int) - P ≤ 256
          · by_cases d3 : l < M
            · have hcov : Lz.cov k (P : Int) = k - P - 1 := by unfold Lz.cov; omega
              rw [hcov] at hI
              have HI : Hid (Lz.Inv zs k l bk (k - P - 1)) := hI
              have hlb : lk zs P k M = Lz.lb zs k (k - P) := by unfold Lz.lb; rw [← HM.out, show k - (k - P) = P by omega]
              have h3 : 3 ≤ Lz.lb zs k (k - P) := Lz.lb_three zs k (k - P) hby (by rw [← HM.out]; omega) (by rw [show k - (k - P) = P by omega]; exact HP.out)
              have hn := Lz.prevOf_lt zs (key zs P) P
              have hca := HC.out P hP
              rw [Lz.aheadL_at zs k P hP] at hca
              have HK : Hid (∀ l' bk', Lz.Inv zs k l' bk' (k - P) → Lz.Inv zs k l' bk' (Lz.cov k (prevOf (lastP zs (key zs P) P)))) := fun l' bk' h => h.next hP (by omega) HP.out
              have HN : Hid (0 ≤ prevOf (lastP zs (key zs P) P) → key zs (prevOf (lastP zs (key zs P) P)).toNat = key zs k) := fun h => (Lz.prevOf_key zs _ P h).trans HP.out
              have HL : Hid (lk zs P k M = Lz.lb zs k (k - P)) := hlb
              clear hI hcov hlb
              generalize prevOf (lastP zs (key zs P) P) = np at hn hca HK HN
              have hlbM := Lz.lb_le zs k (k - P)
              rw [← HM.out] at hlbM
              by_cases d4 : l < Lz.lb zs k (k - P)
              · have R := HK.out _ _ (by have := HI.out.better (by rw [show k - P - 1 + 1 = k - P by omega]; exact h3) (by rw [show k - P - 1 + 1 = k - P by omega]; exact d4); rw [show k - P - 1 + 1 = k - P by omega] at this; exact this)
                go_wp2_with (go_at_call 229; refine (likewise_any b off len cap P k M zs _ hz (hs.drewN _) (by omega) (by omega) hl).mono ?_; rintro e w' ⟨rfl, mm, rfl⟩; rw [HL.out])
                go_roundw
                case rel => exact ⟨_, k - P, np, rfl, by go_num, rfl, by omega, by omega, HN.out, R, _, rfl⟩
                case measure => simp only [intOf]; omega
              · have R := HK.out _ _ (by have := HI.out.worse (by rw [show k - P - 1 + 1 = k - P by omega]; exact h3) (by rw [show k - P - 1 + 1 = k - P by omega]; exact d4); rw [show k - P - 1 + 1 = k - P by omega] at this; exact this)
                go_wp2_with (go_at_call 229; refine (likewise_any b off len cap P k M zs _ hz (hs.drewN _) (by omega) (by omega) hl).mono ?_; rintro e w' ⟨rfl, mm, rfl⟩; rw [HL.out])
                go_roundw
                case rel => exact ⟨l, bk, np, rfl, rfl, rfl, by omega, by omega, HN.out, R, _, rfl⟩
                case measure => simp only [intOf]; omega
            · have HF : Hid (Lz.mt zs k = (l, bk)) := hI.full (by rw [← HM.out]; omega) (by rw [← HM.out]; omega) (by unfold Lz.cov; omega)
              clear hI
              go_wp2
              go_ret2
              rw [HF.out]
              exact ⟨rfl, _, rfl⟩
          · have HF : Hid (Lz.mt zs k = (l, bk)) := Lz.Inv.mt (by have e : Lz.cov k (P : Int) = min 256 k := by unfold Lz.cov; omega
                                                                  rw [e] at hI; exact hI)
            clear hI
            go_wp2
            go_ret2
            rw [HF.out]
            exact ⟨rfl, _, rfl⟩
        · have HF : Hid (Lz.mt zs k = (l, bk)) := Lz.Inv.mt (by have e : Lz.cov k pl = min 256 k := by unfold Lz.cov; omega
                                                                rw [e] at hI; exact hI)
          clear hI hp3
          go_wp2
          go_ret2
          rw [HF.out]
          exact ⟨rfl, _, rfl⟩
end Go.Proofs.YtchcejjoncihkaaGreatDoor

/- The walks of lz.Match and of the reference's Match: each tells the longest and nearest match. -/
namespace Go.Proofs.YtchcejjoncihkaaGreatDoor
set_option linter.unusedVariables false
open Go.RowKit Go.Maps
open Lz (g lk key lastP prevOf aheadL mt)


end Go.Proofs.YtchcejjoncihkaaGreatDoor

/- The walks of appendRuns, appendCopy and of the reference's runs: bytes are laid down as tokens behind what is there. -/
namespace Go.Proofs.YtchcejjoncihkaaGreatDoor
set_option linter.unusedVariables false
open Go.RowKit Go.Maps
open Lz (g runs)


def lenOf : Value → Nat
  | .slice _ n _ => n
  | _ => 0





set_option maxRecDepth 100000 in
set_option maxHeartbeats 3200000 in
theorem appendRuns_any (B n c len cap : Nat) (ao bo : Option Addr) (xs l : List Int) (w : World) (ho : w.ownsRow B 5 1 (.slice ao n c) n (bv xs)) (hB : B ≤ w.heap.size) (hl : BsB w B bo len l) (hlc : len ≤ cap) (hbd : n + 2 * len ≤ 1000000) :
    Calls Tryz.prog 211 #[.slice ao n c, .slice bo len cap] w fun r w' =>
      ∃ ao' n' c', r = .returned (.slice ao' n' c') ∧ w'.ownsRow B 5 1 (.slice ao' n' c') n' (bv (xs ++ runs l)) ∧ Below B w w' ∧ KeepN 5 w w' := by
  obtain ⟨i0, hi, hz0, hz1, hz2⟩ := info_parts infoByte
  go_enter Tryz.func211, Tryz.ntmps211
  go_wp2_with fail
  go_loopw [0, 1] (fun s0 s1 wr => ∃ (ao : Option Addr) (n c : Nat) (ys : List Int) (bo : Option Addr) (len cap : Nat) (rest : List Int), s0 = .slice ao n c ∧ s1 = .slice bo len cap ∧ wr.ownsRow B 5 1 (.slice ao n c) n (bv ys) ∧
      BsB wr B bo len rest ∧ ys ++ runs rest = xs ++ runs l ∧ len ≤ cap ∧ n + 2 * len ≤ 1000000 ∧ Below B w wr ∧ KeepN 5 w wr) (fun _ s1 _ => lenOf s1)
  case atStart => exact ⟨ao, n, c, xs, bo, len, cap, l, rfl, rfl, ho, hl, rfl, hlc, hbd, Below.refl _ _, KeepN.refl _ _⟩
  case round =>
    clear ho hl hlc hbd
    obtain ⟨ao, n, c, ys, bo, len, cap, rest, rfl, rfl, ho, hl, heq, hlc, hbd, hbel, hkeep⟩ := hrel
    have HQ : Hid (ys ++ runs rest = xs ++ runs l) := heq
    clear heq
    have hsz := hbel.size
    by_cases d1 : 0 < len
    · obtain ⟨hz, hby, h0⟩ := hl
      rcases h0 with h0 | ⟨b, off, rfl, hb, hs⟩
      · omega
      obtain ⟨m, hm⟩ : ∃ m : Nat, m = min len 128 := ⟨_, rfl⟩
      have hmin : (if (128 : Int) < (len : Int) then 128 else (len : Int)) = (m : Int) := by split <;> omega
      have hm1 : 1 ≤ m := by omega
      have hm2 : m ≤ 128 := by omega
      have hm3 : m ≤ len := by omega
      have HM : Hid (m = min len 128) := hm
      clear hm
      have ht : (rest.take m).length = m := by simp [hz]; omega
      have hstep : ys ++ runs rest = (ys ++ [(m : Int) - 1] ++ rest.take m) ++ runs (rest.drop m) := by
        rw [Lz.runs_step rest (by omega), hz, ← HM.out]; simp
      have HS : Hid (ys ++ runs rest = (ys ++ [(m : Int) - 1] ++ rest.take m) ++ runs (rest.drop m)) := hstep
      have HR : Hid (BsB wr B (if cap = m then some ⟨b, off, none⟩ else some ⟨b, off + m, none⟩) (len - m) (rest.drop m)) := by
        refine ⟨by simp [hz], bytes_drop hby m, ?_⟩
        by_cases e : len = m
        · exact .inl (by omega)
        · refine .inr ⟨b, off + m, by rw [if_neg (by omega)], hb, ?_⟩
          have := hs.cut m len
          rw [List.take_of_length_le (by omega)] at this
          exact this
      clear hstep
      go_wp2_with (first
        | (at_builtin; refine wpList_append_lies _ rfl (.tmp 12) (.tmp 16) 25 rfl B 5 i0 (.int .u8 0) 1 1 Tryz.underlying25 hi hz0 hz1 hz2 rfl (by decide) _ _ _ rfl (ho.alloc _) ⟨wr.heap.size, 0, none⟩ 1 1 (bv [(m : Int) - 1]) rfl rfl (cell_one_new wr _ _) (bv_one _) (by decide) (by unfold maxLen; omega) (by omega) (by simp; omega) (wr.heap.size + 1) (by simp) ?_; intro g1 c1 w1 a1 k1 _ _; obtain ⟨bel1, keep1, bel1'⟩ := grow_step hbel hkeep (by omega) ho k1; have hs1 := hs.below bel1' hb)
        | (at_builtin; refine wpList_append_lies _ rfl (.tmp 18) (.tmp 21) 25 rfl B 5 i0 (.int .u8 0) 1 1 Tryz.underlying25 hi hz0 hz1 hz2 rfl (by decide) _ _ _ rfl a1 ⟨b, off, none⟩ m _ (bv (rest.take m)) rfl (by rw [bv_length, ht]; omega) (news_seg hs1 m) (bv_one _) (by omega) (by unfold maxLen; omega) (by omega) (by have := bel1.size; omega) w1.heap.size rfl ?_; intro g2 c2 w2 a2 k2 _ _; obtain ⟨bel2, keep2, bel2'⟩ := grow_step0 bel1 keep1 (by have := bel1.size; omega) a1 k2))
      have HF : Hid (BsB w2 B (if cap = m then some ⟨b, off, none⟩ else some ⟨b, off + m, none⟩) (len - m) (rest.drop m)) := (HR.out.below bel1').below bel2'
      have HO : Hid (w2.ownsRow B 5 1 (.slice (some ⟨g2, 0, none⟩) (n + 1 + m) c2) (n + 1 + m) (bv (ys ++ [(m : Int) - 1] ++ rest.take m))) := by rw [bv_append, bv_append]; exact a2
      go_roundw
      case rel => exact ⟨_, _, _, _, _, _, _, _, rfl, rfl, HO.out, HF.out, HS.out.symm.trans HQ.out, by omega, by omega, bel2, keep2⟩
      case measure => simp only [lenOf]; omega
    · go_wp2
      go_ret
      have er : runs rest = [] := Lz.runs_zero rest (by rw [hl.1]; omega)
      have hq := HQ.out
      rw [er, List.append_nil] at hq
      exact ⟨_, _, _, rfl, by rw [← hq]; exact ho, hbel, hkeep⟩

theorem list2 {a b c d : Int} (h1 : a = c) (h2 : b = d) : [a, b] = [c, d] := by rw [h1, h2]

set_option maxHeartbeats 1600000 in
theorem appendCopy_any (B n c L K : Nat) (ao : Option Addr) (xs : List Int) (w : World) (ho : w.ownsRow B 5 1 (.slice ao n c) n (bv xs)) (hB : B ≤ w.heap.size) (hbd : n + 2 ≤ 1000000) (hL1 : 3 ≤ L) (hL2 : L ≤ 130) (hK1 : 1 ≤ K) (hK2 : K ≤ 256) :
    Calls Tryz.prog 212 #[.slice ao n c, .int .i64 L, .int .i64 K] w fun r w' =>
      ∃ ao' c', r = .returned (.slice ao' (n + 2) c') ∧ w'.ownsRow B 5 1 (.slice ao' (n + 2) c') (n + 2) (bv (xs ++ [(L : Int) + 125, (K : Int) - 1])) ∧ Below B w w' ∧ KeepN 5 w w' := by
  obtain ⟨i0, hi, hz0, hz1, hz2⟩ := info_parts infoByte
  go_enter Tryz.func212, Tryz.ntmps212
  go_wp2_with (at_builtin; refine wpList_append_lies _ rfl _ _ 25 rfl B 5 i0 (.int .u8 0) 1 1 Tryz.underlying25 hi hz0 hz1 hz2 rfl (by decide) _ _ _ rfl (ho.alloc _) ⟨w.heap.size, 0, none⟩ 2 2 (bv [(L : Int) - 3 + 128, (K : Int) - 1]) rfl rfl (World.news_of_block (heap_alloc_new w _)) (bv_one _) (by decide) (by unfold maxLen; omega) (by omega) (by simp; omega) (w.heap.size + 1) (by simp) ?_; intro g1 c1 w1 a1 k1 _ _)
  go_ret
  obtain ⟨bel1, keep1, _⟩ := grow_step (Below.refl B w) (KeepN.refl _ w) hB ho k1
  refine ⟨_, _, rfl, ?_, bel1, keep1⟩
  rw [bv_append, list2 (show (L : Int) + 125 = (L : Int) - 3 + 128 by omega) rfl]
  exact a1



end Go.Proofs.YtchcejjoncihkaaGreatDoor

/- The walks of lz.Pack and of the reference's Pack: both come to the same tokens. -/
namespace Go.Proofs.YtchcejjoncihkaaGreatDoor
set_option linter.unusedVariables false
open Go.RowKit Go.Maps
open Lz (g runs mt pk pack)


set_option maxRecDepth 100000 in
set_option maxHeartbeats 16000000 in
theorem Pack_any (len cap : Nat) (ao : Option Addr) (zs : List Int) (w : World) (hB : Bs w ao len zs) (hc : len ≤ cap) (hl : len ≤ 5000) :
    Calls Tryz.prog 166 #[.slice ao len cap] w fun r w' =>
      (4096 < len ∧ r = .returned (.tuple #[.slice none 0 0, .int .i64 3]) ∧ w' = w) ∨
      (len ≤ 4096 ∧ ∃ ao' n' c', r = .returned (.tuple #[.slice ao' n' c', .int .i64 0]) ∧ w'.ownsRow w.heap.size 5 1 (.slice ao' n' c') n' (bv (pack zs)) ∧ Below w.heap.size w w') := by
  by_cases d0 : 4096 < len
  · go_enter Tryz.func166, Tryz.ntmps166
    go_wp2_with fail
    go_ret2
    exact .inl ⟨d0, rfl, rfl⟩
  · have d0' : decide ((4096 : Int) < (len : Int)) = false := by simp; omega
    go_enter Tryz.func166, Tryz.ntmps166
    go_wp2_with fail
    refine (newTrios_any _ zs).mono ?_
    rintro r w1 ⟨rfl, ht, hbel, _⟩
    go_wp2_with fail
    go_loopw [4, 6, 7] (fun s4 s6 s7 wr => ∃ (vo : Option Addr) (n c run a : Nat) (ys : List Int), s4 = .slice vo n c ∧ s6 = .int .i64 run ∧ s7 = .int .i64 a ∧ wr.ownsRow w.heap.size 5 1 (.slice vo n c) n (bv ys) ∧
        run ≤ a ∧ a ≤ len ∧ n ≤ 2 * run ∧ pk zs ys run a = pack zs ∧ Tr wr w.heap.size (w.heap.size + 1) zs (min a (len - 2)) ∧ Below w.heap.size w wr) (fun _ _ s7 _ => len - (intOf s7).toNat)
    case atStart => exact ⟨none, 0, 0, 0, 0, [], rfl, rfl, rfl, World.ownsRow_nil _ _ _ _, by omega, by omega, by omega, rfl, by simpa using ht, hbel⟩
    case round =>
      clear ht hbel
      obtain ⟨vo, n, c, run, a, ys, rfl, rfl, rfl, ho, hra, hal, hn, hpk, hT, hbel⟩ := hrel
      have HP : Hid (pk zs ys run a = pack zs) := hpk
      clear hpk
      have hsz := hbel.size
      by_cases d1 : a < len
      · have hBw := hB.below hbel
        obtain ⟨hz, hby, h0⟩ := hB
        rcases h0 with h0 | ⟨b, off, rfl, hb, hs⟩
        · omega
        have hs1 := hs.below hbel hb
        have hmle := Lz.mt_le zs a
        have hmb := Lz.mt_back zs a
        have hmo : Lz.most zs a ≤ len - a := by unfold Lz.most; omega
        have hmo2 : Lz.most zs a ≤ 130 := by unfold Lz.most; omega
        have HM : Hid (mt zs a = (0, 0) ∨ (3 ≤ (mt zs a).1 ∧ 1 ≤ (mt zs a).2 ∧ (mt zs a).1 = Lz.lb zs a (mt zs a).2)) := Lz.mt_is zs a
        by_cases d2 : (mt zs a).1 = 0
        · have HK : Hid (pk zs ys run a = pk zs ys run (a + 1)) := Lz.pk_byte zs ys run a (by omega) d2
          have d2' : (((mt zs a).1 : Int) == 0) = true := by rw [beq_iff_eq]; omega
          clear d2
          go_wp2_with fail
          refine (match_any b off len cap _ w.heap.size _ a zs _ hz hs1 (by omega) hby hT d1 (by omega)).mono ?_
          rintro r w2 ⟨rfl, nq, rfl⟩
          go_wp2_with fail
          rw [show (a : Int) + 1 = ((a + 1 : Nat) : Int) by omega]
          refine (addUpTo_any b off len cap _ w.heap.size _ (a + 1) zs _ hz (hs1.drewN nq) hb hsz (by omega) hby (hT.drewN nq) (by omega)).mono ?_
          rintro r w3 ⟨rfl, hT3, hbel3, hk3⟩
          have HR : Hid (w3.ownsRow w.heap.size 5 1 (.slice vo n c) n (bv ys) ∧ Tr w3 w.heap.size (w.heap.size + 1) zs (min (a + 1) (len - 2)) ∧ Below w.heap.size w w3) :=
            ⟨hk3.owns ho, by rw [show min (a + 1) (len - 2) = max (min a (len - 2)) (min (a + 1) (len - 2)) by omega]; exact hT3, (below_drewN hbel nq).trans hbel3⟩
          go_wp2
          go_roundw
          case rel => exact ⟨vo, n, c, run, a + 1, ys, rfl, rfl, rfl, HR.out.1, by omega, by omega, hn, HK.out.symm.trans HP.out, HR.out.2.1, HR.out.2.2⟩
          case measure => simp only [intOf]; omega
        · obtain ⟨hm3, hm1⟩ : 3 ≤ (mt zs a).1 ∧ 1 ≤ (mt zs a).2 := by
            rcases HM.out with h | h
            · rw [h] at d2; simp at d2
            · exact ⟨h.1, h.2.1⟩
          have HK : Hid (pk zs ys run a = pk zs (ys ++ runs ((zs.take a).drop run) ++ [((mt zs a).1 : Int) + 125, ((mt zs a).2 : Int) - 1]) (a + (mt zs a).1) (a + (mt zs a).1)) := Lz.pk_copy zs ys run a (by omega) d2
          have d2' : (((mt zs a).1 : Int) == 0) = false := by rw [beq_eq_false_iff_ne]; omega
          clear d2 HM
          have hcr : ¬ cap = run := by omega
          go_wp2_with fail
          refine (match_any b off len cap _ w.heap.size _ a zs _ hz hs1 (by omega) hby hT d1 (by omega)).mono ?_
          rintro r w2 ⟨rfl, nq, rfl⟩
          go_wp2_with fail
          have hcut : BsB wr w.heap.size (some ⟨b, off + run, none⟩) (a - run) ((zs.take a).drop run) := BsB.cut hs1 hb hby run a (a - run) rfl (by omega)
          refine (appendRuns_any w.heap.size n c (a - run) (cap - run) vo _ ys ((zs.take a).drop run) (wr.drewN nq) ho hsz hcut (by omega) (by omega)).mono ?_
          rintro r w3 ⟨ao3, n3, c3, rfl, ho3, hbel3, hk3⟩
          have hn3 : n3 = ys.length + (runs ((zs.take a).drop run)).length := by
            have := ho3.1
            rw [bv_length, List.length_append] at this; omega
          have hn0 : n = ys.length := by
            have := ho.1
            rw [bv_length] at this; omega
          have hn4 : n3 ≤ 2 * a := by
            rw [hn3, Lz.runs_length, hcut.1]; omega
          clear hn3 hn0
          have hB3 : w.heap.size ≤ w3.heap.size := Nat.le_trans hsz hbel3.size
          go_wp2_with fail
          refine (appendCopy_any w.heap.size n3 c3 (mt zs a).1 (mt zs a).2 ao3 _ w3 ho3 hB3 (by omega) hm3 (by omega) hm1 (by omega)).mono ?_
          rintro r w4 ⟨ao4, c4, rfl, ho4, hbel4, hk4⟩
          have hbelw : Below w.heap.size w w4 := ((below_drewN hbel nq).trans hbel3).trans hbel4
          have hT4 : Tr w4 w.heap.size (w.heap.size + 1) zs (min a (len - 2)) := ((hT.drewN nq).kept hk3).kept hk4
          go_wp2_with fail
          rw [show (a : Int) + ((mt zs a).1 : Int) = ((a + (mt zs a).1 : Nat) : Int) by omega]
          refine (addUpTo_any b off len cap _ w.heap.size _ (a + (mt zs a).1) zs _ hz (hs.below hbelw hb) hb hbelw.size (by omega) hby hT4 (by omega)).mono ?_
          rintro r w5 ⟨rfl, hT5, hbel5, hk5⟩
          have HR : Hid (w5.ownsRow w.heap.size 5 1 (.slice ao4 (n3 + 2) c4) (n3 + 2) (bv (ys ++ runs ((zs.take a).drop run) ++ [((mt zs a).1 : Int) + 125, ((mt zs a).2 : Int) - 1])) ∧ Tr w5 w.heap.size (w.heap.size + 1) zs (min (a + (mt zs a).1) (len - 2)) ∧ Below w.heap.size w w5) :=
            ⟨hk5.owns ho4, by rw [show min (a + (mt zs a).1) (len - 2) = max (min a (len - 2)) (min (a + (mt zs a).1) (len - 2)) by omega]; exact hT5, hbelw.trans hbel5⟩
          clear hT hT4 hT5 ho ho3 ho4 hk3 hk4 hk5 hcut hBw
          go_wp2
          go_roundw
          case rel => exact ⟨ao4, n3 + 2, c4, a + (mt zs a).1, a + (mt zs a).1, _, rfl, rfl, rfl, HR.out.1, Nat.le_refl _, by omega, by omega, HK.out.symm.trans HP.out, HR.out.2.1, HR.out.2.2⟩
          case measure => simp only [intOf]; omega
      · have hR := (hB.toB.below hbel).rest run (by omega) hc
        by_cases dc : cap = run
        · rw [if_pos dc] at hR
          obtain rfl := dc
          rw [Nat.sub_eq_zero_of_le hc] at hR
          go_wp2_with fail
          refine (appendRuns_any w.heap.size n c 0 0 vo ao ys (zs.drop cap) _ ho hsz hR (by omega) (by omega)).mono ?_
          rintro r w2 ⟨ao', n', c', rfl, ho', hbel', _⟩
          go_wp2
          go_ret2
          exact .inr ⟨by omega, _, _, _, rfl, by rw [← HP.out, Lz.pk_end _ _ _ _ (by rw [hB.1]; omega)]; exact ho', hbel.trans hbel'⟩
        · rw [if_neg dc] at hR
          go_wp2_with fail
          refine (appendRuns_any w.heap.size n c _ _ vo _ ys (zs.drop run) _ ho hsz hR (by omega) (by omega)).mono ?_
          rintro r w2 ⟨ao', n', c', rfl, ho', hbel', _⟩
          go_wp2
          go_ret2
          exact .inr ⟨by omega, _, _, _, rfl, by rw [← HP.out, Lz.pk_end _ _ _ _ (by rw [hB.1]; omega)]; exact ho', hbel.trans hbel'⟩
end Go.Proofs.YtchcejjoncihkaaGreatDoor

/- The walk of the reference's Pack: it comes to the tokens that the document says. -/
namespace Go.Proofs.YtchcejjoncihkaaGreatDoor
set_option linter.unusedVariables false
open Go.RowKit Go.Maps
open Lz (g runs mt pk pack)


end Go.Proofs.YtchcejjoncihkaaGreatDoor

/- The walks of firstToken, appendTo and lz.Unpack: packed bytes are unpacked, or refused, as the document says. -/
namespace Go.Proofs.YtchcejjoncihkaaGreatDoor
set_option linter.unusedVariables false
open Go.RowKit Go.Maps
open Lz (g)

end Go.Proofs.YtchcejjoncihkaaGreatDoor

/- The walk of lz.Unpack: packed bytes are unpacked, or refused, as the document says. -/
namespace Go.Proofs.YtchcejjoncihkaaGreatDoor
set_option linter.unusedVariables false
open Go.RowKit Go.Maps
open Lz (g)

end Go.Proofs.YtchcejjoncihkaaGreatDoor

/- The walk of the reference's Unpack: packed bytes are unpacked, or refused, as the document says. -/
namespace Go.Proofs.YtchcejjoncihkaaGreatDoor
set_option linter.unusedVariables false
open Go.RowKit Go.Maps
open Lz (g)

end Go.Proofs.YtchcejjoncihkaaGreatDoor

/- What is packed, and what is unpacked, are bytes. -/
namespace Go.Proofs.YtchcejjoncihkaaGreatDoor
set_option linter.unusedVariables false
open Go.RowKit Go.Maps
open Lz (g pack runs mt)

theorem Bytes.runsF : ∀ (f : Nat) {l : List Int}, Bytes l → Bytes (Lz.runsF f l)
  | 0, l, _ => fun x hx => by simp [Lz.runsF] at hx
  | f + 1, l, h => by
    rw [Lz.runsF_succ]
    split
    · intro x hx; simp at hx
    · rename_i hne
      intro x hx
      rcases List.mem_cons.1 hx with rfl | hx
      · omega
      · exact ((h.take _).append (Bytes.runsF f (h.drop _))) x hx
theorem Bytes.runs {l : List Int} (h : Bytes l) : Bytes (Lz.runs l) := Bytes.runsF _ h
theorem mt_bytes (zs : List Int) (a : Nat) (h : (mt zs a).1 ≠ 0) : Bytes [((mt zs a).1 : Int) + 125, ((mt zs a).2 : Int) - 1] := by
  have h1 := Lz.mt_le zs a
  have h2 := Lz.mt_back zs a
  have h3 : Lz.most zs a ≤ 130 := by unfold Lz.most; omega
  rcases Lz.mt_is zs a with e | ⟨h4, h5, _⟩
  · rw [e] at h; simp at h
  · intro x hx
    simp at hx
    rcases hx with rfl | rfl <;> omega
theorem Bytes.packF {zs : List Int} (hz : Bytes zs) : ∀ (f : Nat) (out : List Int) (run a : Nat), Bytes out → Bytes (Lz.packF zs f out run a)
  | 0, out, run, a, h => h.append (hz.drop run).runs
  | f + 1, out, run, a, h => by
    rw [Lz.packF_succ]
    split
    · exact h.append (hz.drop run).runs
    · split
      · exact Bytes.packF hz f _ _ _ h
      · rename_i h0
        exact Bytes.packF hz f _ _ _ ((h.append ((hz.take a).drop run).runs).append (mt_bytes zs a h0))
theorem Bytes.pack {zs : List Int} (hz : Bytes zs) : Bytes (Lz.pack zs) := Bytes.packF hz _ _ _ _ (fun x hx => by simp at hx)
end Go.Proofs.YtchcejjoncihkaaGreatDoor

/- The plain mathematics of unpacking what was packed: whole, with less room, cut, and one behind the other. -/
namespace Go.Proofs.YtchcejjoncihkaaGreatDoor.Lz

theorem packF_out (zs : List Int) : ∀ (f : Nat) (out : List Int) (run a : Nat), packF zs f out run a = out ++ packF zs f [] run a
  | 0, out, run, a => by simp [packF]
  | f + 1, out, run, a => by
    rw [packF_succ, packF_succ]
    by_cases h : zs.length ≤ a
    · rw [if_pos h, if_pos h]; simp
    · rw [if_neg h, if_neg h]
      by_cases h0 : (mt zs a).1 = 0
      · rw [if_pos h0, if_pos h0, packF_out zs f out]
      · rw [if_neg h0, if_neg h0, packF_out zs f (out ++ _ ++ _), packF_out zs f ([] ++ _ ++ _)]; simp
theorem pk_out (zs out : List Int) (run a : Nat) : pk zs out run a = out ++ pk zs [] run a := packF_out zs _ out run a

theorem mt_facts (zs : List Int) (a : Nat) (h : (mt zs a).1 ≠ 0) : 3 ≤ (mt zs a).1 ∧ (mt zs a).1 ≤ 130 ∧ a + (mt zs a).1 ≤ zs.length ∧ 1 ≤ (mt zs a).2 ∧ (mt zs a).2 ≤ 256 ∧ (mt zs a).2 ≤ a ∧
    ∀ k, k < (mt zs a).1 → g zs (a - (mt zs a).2 + k) = g zs (a + k) := by
  have h1 := mt_le zs a
  have h2 := mt_back zs a
  have h3 : most zs a ≤ 130 := by unfold most; omega
  have h4 : most zs a ≤ zs.length - a := by unfold most; omega
  rcases mt_is zs a with e | ⟨h5, h6, h7⟩
  · rw [e] at h; simp at h
  · refine ⟨h5, by omega, by omega, h6, by omega, by omega, fun k hk => ?_⟩
    rw [h7] at hk
    exact lk_eq zs _ _ _ k hk

/-! ### how long -/
theorem pk_short (zs : List Int) : ∀ (f run a : Nat), zs.length - a ≤ f → run ≤ a → a ≤ zs.length → (pk zs [] run a).length ≤ (zs.length - run) + (zs.length - run + 127) / 128
  | 0, run, a, hf, hra, hal => by rw [pk_end zs [] run a (by omega), List.nil_append, runs_length]; simp
  | f + 1, run, a, hf, hra, hal => by
    by_cases h : zs.length ≤ a
    · rw [pk_end zs [] run a (by omega), List.nil_append, runs_length]; simp
    · by_cases h0 : (mt zs a).1 = 0
      · rw [pk_byte zs [] run a (by omega) h0]
        exact pk_short zs f run (a + 1) (by omega) (by omega) (by omega)
      · obtain ⟨m1, m2, m3, _⟩ := mt_facts zs a h0
        have ih := pk_short zs f (a + (mt zs a).1) (a + (mt zs a).1) (by omega) (by omega) (by omega)
        have hl2 : ((zs.take a).drop run).length = a - run := by simp; omega
        rw [pk_copy zs [] run a (by omega) h0, pk_out, List.nil_append, List.length_append, List.length_append, runs_length, hl2]
        simp only [List.length_cons, List.length_nil]
        omega
theorem pack_short (zs : List Int) : (pack zs).length ≤ zs.length + (zs.length + 127) / 128 := by
  have := pk_short zs zs.length 0 0 (by omega) (by omega) (by omega)
  simpa [pack] using this

end Go.Proofs.YtchcejjoncihkaaGreatDoor.Lz

/- CrcAll: CrcPure, CrcLeaf, CrcNew, CrcMore, as one text. -/

/- The plain mathematics of layer 2 (crc): the table's rule, sums by any table, that one turned byte turns the sum, and that sums are affine. Nothing of the program is named here. -/
namespace Go.Proofs.YtchcejjoncihkaaGreatDoor.Crc

/-- One bit's step. -/
def stp (r : Nat) : Nat := if r % 2 = 1 then (r / 2) ^^^ 3988292384 else r / 2
/-- n bits' steps. -/
def steps : Nat → Nat → Nat
  | 0, r => r
  | n + 1, r => steps n (stp r)
/-- What comes of eight bits. -/
def ent (r : Nat) : Nat := steps 8 r
/-- One byte's step, by any table. -/
def bt (T : Nat → Nat) (r c : Nat) : Nat := (r / 256) ^^^ T ((r ^^^ c) % 256)
/-- All bytes' steps. -/
def run (T : Nat → Nat) : Nat → List Int → Nat
  | r, [] => r
  | r, c :: l => run T (bt T r c.toNat) l
/-- The sum goes on. -/
def more (T : Nat → Nat) (s : Nat) (l : List Int) : Nat := run T (s ^^^ 4294967295) l ^^^ 4294967295
theorem xor_lt {a b : Nat} (ha : a < 4294967296) (hb : b < 4294967296) : a ^^^ b < 4294967296 := Nat.xor_lt_two_pow (n := 32) ha hb
theorem stp_lt {r : Nat} (h : r < 4294967296) : stp r < 4294967296 := by
  unfold stp
  split
  · exact xor_lt (by omega) (by omega)
  · omega
theorem steps_lt : ∀ (n : Nat) {r : Nat}, r < 4294967296 → steps n r < 4294967296
  | 0, _, h => h
  | n + 1, _, h => steps_lt n (stp_lt h)
theorem ent_lt {r : Nat} (h : r < 4294967296) : ent r < 4294967296 := steps_lt 8 h
theorem bt_lt {T : Nat → Nat} (hT : ∀ i, i < 256 → T i < 4294967296) {r : Nat} (h : r < 4294967296) (c : Nat) : bt T r c < 4294967296 :=
  xor_lt (by omega) (hT _ (Nat.mod_lt _ (by omega)))
theorem run_lt {T : Nat → Nat} (hT : ∀ i, i < 256 → T i < 4294967296) : ∀ (l : List Int) {r : Nat}, r < 4294967296 → run T r l < 4294967296
  | [], _, h => h
  | _ :: l, _, h => run_lt hT l (bt_lt hT h _)
theorem more_lt {T : Nat → Nat} (hT : ∀ i, i < 256 → T i < 4294967296) (l : List Int) {s : Nat} (h : s < 4294967296) : more T s l < 4294967296 :=
  xor_lt (run_lt hT l (xor_lt h (by omega))) (by omega)
/-! ### sums are affine -/
theorem xor_mod (a b : Nat) : (a ^^^ b) % 256 = a % 256 ^^^ b % 256 := Nat.xor_mod_two_pow (n := 8)
/-! ### one turned byte turns the sum -/
theorem ent_row : ∀ i, i < 256 → ent i < 4294967296 := fun i h => ent_lt (by omega)
/-! ### the examples -/
end Go.Proofs.YtchcejjoncihkaaGreatDoor.Crc

/- The leaves of layer 2 (crc): what entry, the reference's Entry and few do. -/
namespace Go.Proofs.YtchcejjoncihkaaGreatDoor
set_option linter.unusedVariables false
open Go.RowKit Go.Maps
open Lz (g)
open Crc (stp steps ent bt run more)

theorem and1 {r : Nat} (hr : r < 4294967296) : bits .and .u32 (r : Int) 1 = ((r % 2 : Nat) : Int) := by
  rw [show (1 : Int) = ((1 : Nat) : Int) from rfl, u32_and_nat r 1 hr (by omega), nat_mask1]
theorem xorP {r : Nat} (hr : r < 4294967296) : bits .xor .u32 (r : Int) 3988292384 = ((r ^^^ 3988292384 : Nat) : Int) := u32_xor_nat r 3988292384 hr (by omega)
theorem steps_one (n r : Nat) : steps (n + 1) r = steps n (stp r) := rfl

set_option maxHeartbeats 1600000 in
theorem entry_any (r : Nat) (w : World) (hr : r < 4294967296) :
    Calls Tryz.prog 36 #[.int .u32 r] w fun e w' => e = .returned (.int .u32 (ent r)) ∧ w' = w := by
  obtain ⟨E, hE⟩ : ∃ E, E = ent r := ⟨_, rfl⟩
  rw [← hE]
  have HE : Hid (E = steps 8 r) := hE
  clear hE
  go_enter Tryz.func36, Tryz.ntmps36
  go_wp2
  go_loopw [0, 4] (fun s0 s4 wr => ∃ k x : Nat, s0 = .int .u32 x ∧ s4 = .int .i64 k ∧ x < 4294967296 ∧ k ≤ 8 ∧ Hid (E = steps (8 - k) x) ∧ wr = w) (fun _ s4 _ => 8 - (intOf s4).toNat)
  case atStart => exact ⟨0, r, rfl, rfl, hr, by omega, HE, rfl⟩
  case round =>
    obtain ⟨k, x, rfl, rfl, hx, hk, H, rfl⟩ := hrel
    by_cases hlt : k < 8
    · have e1 := and1 hx
      have e2 := xorP (r := x / 2) (by omega)
      have e3 : ((x / 2 : Nat) : Int) = (x : Int) / 2 := by omega
      rw [e3] at e2
      have hs : E = steps (8 - (k + 1)) (stp x) := by
        rw [H.out, ← steps_one]
        congr 1
        omega
      rcases Nat.mod_two_eq_zero_or_one x with h0 | h1
      · rw [h0] at e1
        have hs' : E = steps (8 - (k + 1)) (x / 2) := by
          rw [show (x / 2) = stp x by unfold stp; simp [h0]]; exact hs
        have HS : Hid (E = steps (8 - (k + 1)) (x / 2)) := hs'
        clear hs'
        clear hs
        go_wp2
        go_roundw
        case rel => exact ⟨k + 1, x / 2, by go_num, by go_num, by omega, by omega, HS, trivial⟩
        case measure => simp [intOf]; omega
      · rw [h1] at e1
        have hs' : E = steps (8 - (k + 1)) (x / 2 ^^^ 3988292384) := by
          rw [show (x / 2 ^^^ 3988292384) = stp x by unfold stp; simp [h1]]; exact hs
        have HS : Hid (E = steps (8 - (k + 1)) (x / 2 ^^^ 3988292384)) := hs'
        clear hs'
        have hlt2 : x / 2 ^^^ 3988292384 < 4294967296 := Crc.xor_lt (by omega) (by omega)
        clear hs
        go_wp2
        go_roundw
        case rel => exact ⟨k + 1, x / 2 ^^^ 3988292384, rfl, by go_num, hlt2, by omega, HS, trivial⟩
        case measure => simp [intOf]; omega
    · obtain rfl : k = 8 := by omega
      go_wp2
      go_ret
      exact ⟨congrArg (fun q : Nat => Ending.returned (.int .u32 (q : Int))) (show x = E from H.out.symm), rfl⟩

end Go.Proofs.YtchcejjoncihkaaGreatDoor

/- The walk of crc.New: it hands the table of its rule back, and writes nothing that was there. -/
namespace Go.Proofs.YtchcejjoncihkaaGreatDoor
set_option linter.unusedVariables false
open Go.RowKit Go.Maps
open Lz (g)
open Crc (stp steps ent bt run more)

/-- 256 numbers as a table's cells. -/
def tab (T : Nat → Nat) : Array Value := ((List.range 256).map fun j => Value.int .u32 (T j)).toArray
theorem tab_size (T : Nat → Nat) : (tab T).size = 256 := by simp [tab]
theorem tab_at (T : Nat → Nat) (i : Nat) (h : i < 256) : (tab T)[i]? = some (.int .u32 (T i)) := by simp [tab, h]
theorem tab_one (T : Nat → Nat) : (tab T).all (·.oneCell') = true := by
  simp [tab, Value.oneCell']
/-- The table of the rule up to i. -/
def upTo (i : Nat) : Nat → Nat := fun j => if j < i then ent j else 0
theorem tab_zero : tab (upTo 0) = Array.replicate 256 (.int .u32 0) := by
  apply Array.ext_getElem?
  intro i
  by_cases h : i < 256
  · rw [tab_at _ _ h]
    simp [upTo, h]
  · simp [tab, h]
theorem tab_set (i : Nat) (h : i < 256) : (tab (upTo i)).setIfInBounds i (.int .u32 (ent i)) = tab (upTo (i + 1)) := by
  apply Array.ext_getElem?
  intro j
  by_cases hj : j < 256
  · rw [tab_at _ _ hj]
    by_cases e : i = j
    · subst e
      rw [Array.getElem?_setIfInBounds_self_of_lt (by rw [tab_size]; exact hj)]
      simp [upTo]
    · rw [Array.getElem?_setIfInBounds_ne e, tab_at _ _ hj]
      have : (j < i + 1) = (j < i) := by simp; omega
      simp [upTo, this]
  · rw [Array.getElem?_eq_none (by rw [Array.size_setIfInBounds, tab_size]; omega), Array.getElem?_eq_none (by rw [tab_size]; omega)]
theorem tab_congr {T U : Nat → Nat} (h : ∀ i, i < 256 → T i = U i) : tab T = tab U := by
  apply Array.ext_getElem?
  intro j
  by_cases hj : j < 256
  · rw [tab_at _ _ hj, tab_at _ _ hj, h j hj]
  · rw [Array.getElem?_eq_none (by rw [tab_size]; omega), Array.getElem?_eq_none (by rw [tab_size]; omega)]
theorem tab_full : tab (upTo 256) = tab ent := tab_congr fun i h => by simp [upTo, h]

theorem infoTable : (Tryz.prog.info? 42).map (fun i => (i.zero, i.size)) = some (some (.agg (Array.replicate 256 (.int .u32 0))), 256) := by kernel_rfl

set_option maxRecDepth 100000 in
set_option maxHeartbeats 1600000 in
theorem New_any (w : World) : Calls Tryz.prog 15 #[] w fun e w' => e = .returned (.agg (tab ent)) ∧ Below w.heap.size w w' := by
  obtain ⟨hz, hi'⟩ := zero_of_info infoTable
  go_enter Tryz.func15, Tryz.ntmps15
  go_wp2
  rw [← tab_zero]
  obtain ⟨w1, hw1⟩ : ∃ w1, w1 = w.alloc (Obj.cells (tab (upTo 0)) 42) := ⟨_, rfl⟩
  have hs1 : w1.heap.size = w.heap.size + 1 := by rw [hw1]; simp
  rw [← hw1, ← hs1]
  have HW : Hid (w1 = w.alloc (Obj.cells (tab (upTo 0)) 42)) := hw1
  clear hw1 hs1
  go_loopw [3] (fun s3 wr => ∃ i : Nat, i ≤ 256 ∧ s3 = .int .i64 i ∧ wr = w1.alloc (.cells (tab (upTo i)) 42)) (fun s3 _ => 256 - (intOf s3).toNat)
  case atStart => exact ⟨0, by omega, rfl, rfl⟩
  case round =>
    obtain ⟨i, hi, rfl, rfl⟩ := hrel
    by_cases hlt : i < 256
    · have hcell := tab_at (upTo i) i hlt
      have hset := tab_set i hlt
      go_wp2_with fail
      refine (entry_any i _ (by omega)).mono ?_
      rintro r wx ⟨rfl, rfl⟩
      go_wp2
      go_roundw
      case rel => exact ⟨i + 1, by omega, by go_num, rfl⟩
      case measure => simp [intOf]; omega
    · obtain rfl : i = 256 := by omega
      rw [tab_full]
      obtain ⟨C, hC⟩ : ∃ C, C = tab ent := ⟨_, rfl⟩
      have hCs : C.size = 256 := by rw [hC]; exact tab_size _
      have hC1 : C.all (·.oneCell') = true := by rw [hC]; exact tab_one _
      rw [← hC]
      have HC : Hid (C = tab ent) := hC
      clear hC
      have hh : (w1.alloc (Obj.cells C 42)).heap[w.heap.size]? = some (Obj.cells (tab (upTo 0)) 42 (0, 0)) := by
        rw [HW.out]; exact heap_alloc2_old w _ _
      have HB : Hid (Below w.heap.size w ((w1.alloc (Obj.cells C 42)).setRow w.heap.size C)) := by
        have h1 : Below w.heap.size w (w1.alloc (Obj.cells C 42)) := by
          rw [HW.out]; exact ((Below.refl _ _).alloc (Nat.le_refl _) _).alloc (by simp) _
        exact ⟨h1.os, h1.tape, h1.output, by rw [setRow_size]; exact h1.size, fun k hk => by rw [setRow_other _ _ _ _ (by omega)]; exact h1.block k hk⟩
      go_wp2_with (first
        | refine wpList_load_row rfl _ _ rfl w1.heap.size rfl 42 C (0, 0) _ (heap_alloc_new w1 _) Tryz.underlying42 rfl (by rw [hCs]; exact hi') ?_
        | refine wpList_store_row rfl _ _ _ rfl w.heap.size C rfl rfl 42 (tab (upTo 0)) hh (by rw [hCs]; exact hi') (by rw [hCs]; exact tab_size _) hC1 ?_)
      refine bodyPost_ret (v := .agg C) ?_ rfl ⟨by rw [HC.out], HB.out⟩
      exact results_cell_row rfl _ _ w.heap.size 42 C (0, 0) _ rfl (setRow_heap _ _ _ _ _ _ hh) Tryz.underlying42 rfl (by rw [hCs]; exact hi')
end Go.Proofs.YtchcejjoncihkaaGreatDoor

/- The walks of Table.More, Table.Sum and of the reference's Of and Sum: each tells the sum of the bytes, and writes nothing. -/
namespace Go.Proofs.YtchcejjoncihkaaGreatDoor
set_option linter.unusedVariables false
open Go.RowKit Go.Maps
open Lz (g)
open Crc (stp steps ent bt run more)

/-- The table lies at block b. -/
def Tb (w : World) (b : Nat) (T : Nat → Nat) : Prop := ∀ i, i < 256 → w.cell? ⟨b, i, none⟩ = some (.int .u32 (T i))
def Small (T : Nat → Nat) : Prop := ∀ i, i < 256 → T i < 4294967296
theorem small_ent : Small ent := Crc.ent_row

theorem not32 {r : Nat} (hr : r < 4294967296) : bits .xor .u32 IntKind.u32.max (r : Int) = ((r ^^^ 4294967295 : Nat) : Int) := by
  have := u32_xor_nat 4294967295 r (by omega) hr
  rw [Nat.xor_comm] at this
  exact this
theorem run_at (T : Nat → Nat) (x k : Nat) (zs : List Int) (h : k < zs.length) : run T x (zs.drop k) = run T (bt T x (g zs k).toNat) (zs.drop (k + 1)) := by
  rw [List.drop_eq_getElem_cons h, Lz.g_lt _ _ h]
  rfl

/-- The look-up's place, as the program makes it of eight bits. -/
theorem look8 {x c : Nat} (hc : c ≤ 255) : bits .xor .u8 ((x : Int) % 256) (c : Int) = (((x ^^^ c) % 256 : Nat) : Int) := by
  have h := u8_xor_nat (x % 256) c (by omega) (by omega)
  rw [Crc.xor_mod, Nat.mod_eq_of_lt (show c < 256 by omega), ← h]
  congr 1
theorem next32 {T : Nat → Nat} {x c : Nat} (hS : Small T) (hx : x < 4294967296) : bits .xor .u32 ((x : Int) / 256) (T ((x ^^^ c) % 256) : Int) = ((bt T x c : Nat) : Int) := by
  have h := u32_xor_nat (x / 256) (T ((x ^^^ c) % 256)) (by omega) (hS _ (Nat.mod_lt _ (by omega)))
  exact h

set_option maxRecDepth 100000 in
set_option maxHeartbeats 1600000 in
theorem More_any (b s len cap : Nat) (T : Nat → Nat) (ao : Option Addr) (zs : List Int) (w : World) (hT : Tb w b T) (hS : Small T) (hs : s < 4294967296) (hB : Bs w ao len zs) (hl : len ≤ 1000000) :
    Calls Tryz.prog 140 #[.pointer (some ⟨b, 0, none⟩), .int .u32 s, .slice ao len cap] w fun e w' => e = .returned (.int .u32 (more T s zs)) ∧ w' = w := by
  obtain ⟨hz, hby, h0⟩ := hB
  obtain ⟨R, hR⟩ : ∃ R, R = run T (s ^^^ 4294967295) zs := ⟨_, rfl⟩
  have e0 := not32 hs
  have hR32 : R < 4294967296 := by rw [hR]; exact Crc.run_lt hS _ (Crc.xor_lt hs (by omega))
  have e9 := not32 hR32
  have HF : Hid (more T s zs = R ^^^ 4294967295) := by show run T _ _ ^^^ _ = _; rw [← hR]
  have HR : Hid (R = run T (s ^^^ 4294967295) (zs.drop 0)) := hR
  have hs2 : s ^^^ 4294967295 < 4294967296 := Crc.xor_lt hs (by omega)
  rw [HF.out]
  clear hR
  generalize s ^^^ 4294967295 = s' at *
  go_enter Tryz.func140, Tryz.ntmps140
  go_wp2
  go_loopw [7, 14] (fun s7 s14 wr => ∃ k x : Nat, s7 = .int .u32 x ∧ s14 = .int .i64 k ∧ x < 4294967296 ∧ k ≤ len ∧ Hid (R = run T x (zs.drop k)) ∧ wr = w) (fun _ s14 _ => len - (intOf s14).toNat)
  case atStart => exact ⟨0, s', rfl, rfl, hs2, by omega, HR, rfl⟩
  case round =>
    obtain ⟨k, x, rfl, rfl, hx, hk, H, rfl⟩ := hrel
    by_cases hlt : k < len
    · rcases h0 with h0 | ⟨bb, off, rfl, hbl, hseg⟩
      · omega
      have hc := hseg k (by omega)
      have hcb := hby k
      generalize hq : g zs k = q at hc hcb
      obtain ⟨c, rfl⟩ : ∃ c : Nat, q = (c : Int) := ⟨q.toNat, by omega⟩
      have hst := run_at T x k zs (by omega)
      rw [hq] at hst
      have HS : Hid (R = run T (bt T x c) (zs.drop (k + 1))) := H.out.trans hst
      have hj : (x ^^^ c) % 256 < 256 := Nat.mod_lt _ (by omega)
      have e1 := look8 (x := x) (c := c) (by omega)
      have e2 := next32 (T := T) (x := x) (c := c) hS hx
      have ht := hT _ hj
      have hb32 := Crc.bt_lt hS hx c
      generalize (x ^^^ c) % 256 = j at *
      clear hst hq
      generalize bt T x c = y at *
      go_wp2
      go_roundw
      case rel => exact ⟨k + 1, y, rfl, by go_num, hb32, by omega, HS, trivial⟩
      case measure => simp [intOf]; omega
    · obtain rfl : k = len := by omega
      have hRx : R = x := by
        have := H.out
        rw [List.drop_eq_nil_of_le (by omega)] at this
        exact this
      subst hRx
      go_wp2
      go_ret
      exact ⟨rfl, rfl⟩

set_option maxHeartbeats 1600000 in
theorem Sum_any (b len cap : Nat) (T : Nat → Nat) (ao : Option Addr) (zs : List Int) (w : World) (hT : Tb w b T) (hS : Small T) (hB : Bs w ao len zs) (hl : len ≤ 1000000) :
    Calls Tryz.prog 92 #[.pointer (some ⟨b, 0, none⟩), .slice ao len cap] w fun e w' => e = .returned (.int .u32 (more T 0 zs)) ∧ w' = w := by
  go_enter Tryz.func92, Tryz.ntmps92
  go_wp2_with fail
  refine (More_any b 0 len cap T ao zs w hT hS (by omega) hB hl).mono ?_
  rintro r wx ⟨rfl, rfl⟩
  clear hT hB
  go_wp2
  go_ret
  exact ⟨rfl, rfl⟩
theorem tb_row {w : World} {b t : Nat} {T : Nat → Nat} (h : w.heap[b]? = some (.cells (tab T) t (0, 0))) : Tb w b T := fun i hi => by
  rw [cell_of_row w b i (tab T) t (0, 0) h]
  exact tab_at T i hi
theorem Tb.below {w w' : World} {B b : Nat} {T : Nat → Nat} (h : Tb w b T) (hb : Below B w w') (hlt : b < B) : Tb w' b T := fun i hi => (hb.cell (by exact hlt)).trans (h i hi)

/-- The table is laid into a variable of the caller's own. -/
theorem wpList_store_table {ops : Array Oper} {rest : List Oper} {o : Oper} {a : Act} {w : World} {Q : Exit → Act → World → Prop} (hgd : o.guard = none) (x y : Operand) (ho : o.op = .store 42 x y)
    (T : Nat → Nat) (C : Array Value) (hC : C = tab T) (hx : a.eval x = .pointer (some ⟨w.heap.size, 0, none⟩)) (hy : a.eval y = .agg C) (old : Array Value) (hold : old.size = 256)
    (h : ∀ w', Hid (w'.heap[w.heap.size]? = some (.cells C 42 (0, 0))) → Tb w' w.heap.size T → w.heap.size < w'.heap.size → Below w.heap.size w w' → wpList Tryz.prog ops Q rest (a.put o.dst undef) w') : wpList Tryz.prog ops Q (o :: rest) a (w.alloc (.cells old 42)) := by
  subst hC
  refine wpList_store_row hgd 42 x y ho w.heap.size (tab T) hx hy 42 old (heap_alloc_new w _) (by rw [tab_size]; exact (zero_of_info infoTable).2) (by rw [hold, tab_size]) (tab_one T) ?_
  rw [World.setRow_alloc_new]
  exact h _ (heap_alloc_new w _) (tb_row (heap_alloc_new w _)) (by simp) ((Below.refl _ _).alloc (Nat.le_refl _) _)
end Go.Proofs.YtchcejjoncihkaaGreatDoor

/- Readers and writers in memory: a block of two cells, a slice of bytes and the error; frames that name the blocks that may turn. -/
namespace Go.Proofs.YtchcejjoncihkaaGreatDoor
set_option linter.unusedVariables false
open Go.RowKit Go.Maps
open Lz (g)

/-- The block p, of the type t, holds the slice and the error. -/
def Hd (t : TypeId) (w : World) (p : Nat) (ao : Option Addr) (n c : Nat) (e : Int) : Prop := w.heap[p]? = some (.cells #[.slice ao n c, .int .i64 e] t (0, 0))
theorem Hd.lt {t : TypeId} {w : World} {p n c : Nat} {ao : Option Addr} {e : Int} (h : Hd t w p ao n c e) : p < w.heap.size := heap_lt h
theorem Hd.c0 {t : TypeId} {w : World} {p n c : Nat} {ao : Option Addr} {e : Int} (h : Hd t w p ao n c e) : w.cell? ⟨p, 0, none⟩ = some (.slice ao n c) := by
  unfold Hd at h; simp [World.cell?, h]
theorem Hd.c1 {t : TypeId} {w : World} {p n c : Nat} {ao : Option Addr} {e : Int} (h : Hd t w p ao n c e) : w.cell? ⟨p, 1, none⟩ = some (.int .i64 e) := by
  unfold Hd at h; simp [World.cell?, h]
theorem Hd.f {t : TypeId} {w : World} {p n c : Nat} {ao : Option Addr} {e : Int} (h : Hd t w p ao n c e) (i : Nat) : w.frozen? ⟨p, i, none⟩ = false := by
  unfold Hd at h; simp [World.frozen?, h]
theorem heap_setCell_self {w : World} {p i : Nat} {cs : Array Value} {t : TypeId} {fz : Nat × Nat} (h : w.heap[p]? = some (.cells cs t fz)) (v : Value) : (w.setCell ⟨p, i, none⟩ v).heap[p]? = some (.cells (cs.setIfInBounds i v) t fz) := by
  simp [World.setCell, Array.getElem?_modify, h]
theorem Hd.set0 {t : TypeId} {w : World} {p n c : Nat} {ao : Option Addr} {e : Int} (h : Hd t w p ao n c e) (ao' : Option Addr) (n' c' : Nat) : Hd t (w.setCell ⟨p, 0, none⟩ (.slice ao' n' c')) p ao' n' c' e := by
  unfold Hd; rw [heap_setCell_self h]; rfl
theorem Hd.set1 {t : TypeId} {w : World} {p n c : Nat} {ao : Option Addr} {e : Int} (h : Hd t w p ao n c e) (e' : Int) : Hd t (w.setCell ⟨p, 1, none⟩ (.int .i64 e')) p ao n c e' := by
  unfold Hd; rw [heap_setCell_self h]; rfl
/-- All blocks but those that S names are as they were. -/
structure Fr (S : Nat → Prop) (w w' : World) : Prop where
  os : w'.os = w.os
  tape : w'.tape = w.tape
  output : w'.output = w.output
  size : w.heap.size ≤ w'.heap.size
  block : ∀ k, k < w.heap.size → ¬ S k → w'.heap[k]? = w.heap[k]?
theorem Fr.refl (S : Nat → Prop) (w : World) : Fr S w w := ⟨rfl, rfl, rfl, Nat.le_refl _, fun _ _ _ => rfl⟩
theorem Fr.trans {S S' : Nat → Prop} {a b c : World} (h : Fr S a b) (k : Fr S' b c) (hs : ∀ i, i < a.heap.size → S' i → S i) : Fr S a c :=
  ⟨k.os.trans h.os, k.tape.trans h.tape, k.output.trans h.output, Nat.le_trans h.size k.size, fun i hi hn => (k.block i (Nat.lt_of_lt_of_le hi h.size) (fun hx => hn (hs i hi hx))).trans (h.block i hi hn)⟩
theorem Fr.then {S : Nat → Prop} {a b c : World} (h : Fr S a b) (k : Fr S b c) : Fr S a c := h.trans k (fun _ _ h => h)
theorem Fr.mono {S S' : Nat → Prop} {a b : World} (h : Fr S a b) (hs : ∀ i, i < a.heap.size → S i → S' i) : Fr S' a b :=
  ⟨h.os, h.tape, h.output, h.size, fun i hi hn => h.block i hi (fun hx => hn (hs i hi hx))⟩
theorem Fr.set {S : Nat → Prop} {a b : World} (h : Fr S a b) {p : Addr} (v : Value) (hp : p.block < a.heap.size → S p.block) : Fr S a (b.setCell p v) :=
  ⟨h.os, h.tape, h.output, by simpa [World.setCell] using h.size, fun i hi hn => (Below.heap_setCell _ _ _ _ (fun e => by subst e; exact hn (hp hi))).trans (h.block i hi hn)⟩
theorem Fr.alloc {S : Nat → Prop} {a b : World} (h : Fr S a b) (o : Obj) : Fr S a (b.alloc o) :=
  ⟨h.os, h.tape, h.output, Nat.le_trans h.size (by simp), fun i hi hn => (Below.heap_alloc _ _ _ (Nat.lt_of_lt_of_le hi h.size)).trans (h.block i hi hn)⟩
theorem Fr.drew {S : Nat → Prop} {a b : World} (h : Fr S a b) : Fr S a b.drew := ⟨h.os, h.tape, h.output, h.size, h.block⟩
theorem Fr.drewN {S : Nat → Prop} {a b : World} (h : Fr S a b) (n : Nat) : Fr S a (b.drewN n) := ⟨h.os, h.tape, h.output, h.size, h.block⟩
theorem Fr.undrew {S : Nat → Prop} {a b : World} (h : Fr S a.drew b) : Fr S a b := ⟨h.os, h.tape, h.output, h.size, h.block⟩
theorem Fr.of_below {S : Nat → Prop} {a b : World} (h : Below a.heap.size a b) : Fr S a b := ⟨h.os, h.tape, h.output, h.size, fun i hi _ => h.block i hi⟩
theorem Fr.of_grown {S : Nat → Prop} {a b : World} {row : Option Nat} (h : a.grownBy b row) (hr : ∀ k, row = some k → S k) : Fr S a b := ⟨h.os, h.tape, h.output, h.size, fun i hi hn => h.block i hi (fun e => hn (hr i e.symm))⟩
theorem Fr.below {S : Nat → Prop} {a b : World} (h : Fr S a b) (B : Nat) (hB : B ≤ a.heap.size) (hs : ∀ k, S k → B ≤ k) : Below B a b :=
  ⟨h.os, h.tape, h.output, h.size, fun k hk => h.block k (by omega) (fun hx => by have := hs k hx; omega)⟩
theorem Fr.cell {S : Nat → Prop} {a b : World} (h : Fr S a b) {q : Addr} (hq : q.block < a.heap.size) (hn : ¬ S q.block) : b.cell? q = a.cell? q := World.cell?_of_block (w := a) (h.block _ hq hn)
theorem Hd.fr {S : Nat → Prop} {t : TypeId} {w w' : World} {p n c : Nat} {ao : Option Addr} {e : Int} (h : Hd t w p ao n c e) (hf : Fr S w w') (hn : ¬ S p) : Hd t w' p ao n c e := (hf.block p h.lt hn).trans h
theorem Bs.fr {S : Nat → Prop} {w w' : World} {ao : Option Addr} {n : Nat} {zs : List Int} (h : Bs w ao n zs) (hf : Fr S w w') (hn : ∀ a, ao = some a → 0 < n → ¬ S a.block) : Bs w' ao n zs := by
  refine ⟨h.1, h.2.1, ?_⟩
  rcases h.2.2 with h0 | ⟨b, off, h1, h2, h3⟩
  · exact .inl h0
  · by_cases e : n = 0
    · exact .inl e
    · exact .inr ⟨b, off, h1, Nat.lt_of_lt_of_le h2 hf.size, fun i hi => (hf.cell (q := ⟨b, off + i, none⟩) h2 (show ¬ S b from hn ⟨b, off, none⟩ h1 (by omega))).trans (h3 i hi)⟩
/-- Bytes lie in no block of the other kind. -/
theorem Bs.ne {t : TypeId} {w : World} {p n c m : Nat} {ao ao' : Option Addr} {e : Int} {zs : List Int} (h : Bs w ao m zs) (hd : Hd t w p ao' n c e) (hne : t ≠ 5) : ∀ a, ao = some a → 0 < m → a.block ≠ p := by
  intro a ha hm hp
  rcases h.2.2 with h0 | ⟨b, off, h1, h2, h3⟩
  · omega
  · rw [ha] at h1
    obtain rfl := Option.some.inj h1
    have := h3 0 (by rw [h.1]; omega)
    simp only at hp
    subst hp
    unfold Hd at hd
    simp [World.cell?, hd] at this
    rcases off with _ | _ | off <;> simp at this
theorem owns_ne_hd {t : TypeId} {w : World} {p n c m B size : Nat} {ao : Option Addr} {v : Value} {e : Int} {xs : List Value} (h : w.ownsRow B 5 size v m xs) (hd : Hd t w p ao n c e) (hne : t ≠ 5) : v.ownBlock ≠ some p := by
  intro hv
  have := owns_ne h hd (fun cur fz hx => by injection hx with _ h2 _; exact hne h2)
  exact this hv.symm
theorem owns_fr {S : Nat → Prop} {w w' : World} {B e size n : Nat} {v : Value} {xs : List Value} (h : w.ownsRow B e size v n xs) (hf : Fr S w w') (hn : ∀ k, v.ownBlock = some k → ¬ S k) : w'.ownsRow B e size v n xs := by
  refine ⟨h.1, ?_⟩
  rcases h.2 with h0 | ⟨g, cap, cur, rfl, hg, hgg, rest⟩
  · exact .inl h0
  · exact .inr ⟨g, cap, cur, rfl, hg, by rw [hf.block g (heap_lt hgg) (hn g rfl)]; exact hgg, rest⟩
/-- A new block of that kind. -/
theorem Hd.new (t : TypeId) (w : World) (ao : Option Addr) (n c : Nat) (e : Int) : Hd t (w.alloc (.cells #[.slice ao n c, .int .i64 e] t)) w.heap.size ao n c e := heap_alloc_new w _

/-- What is left to be read, or was written, and the error. -/
abbrev St := List Int × Int
/-- A reader: its bytes lie in a block below L; behind an error there are none. -/
def RdP (w : World) (p L : Nat) (s : St) : Prop := ∃ ao n c, Hd 200 w p ao n c s.2 ∧ BsB w L ao n s.1 ∧ n ≤ c ∧ c ≤ 9223372036854775807 ∧ n ≤ 1000000 ∧ (ao = none → c = 0) ∧ L ≤ w.heap.size ∧ (s.2 = 0 ∨ s.1 = [])
/-- A writer: its row is its own. -/
def WrP (w : World) (p B : Nat) (v : Value) (s : St) : Prop := ∃ ao n c, v = .slice ao n c ∧ Hd 156 w p ao n c s.2 ∧ w.ownsRow B 5 1 (.slice ao n c) n (bv s.1) ∧ Bytes s.1 ∧ (s.2 = 0 ∨ s.1 = [])
/-- The block p alone. -/
def One (p : Nat) : Nat → Prop := fun k => k = p
/-- The block p and the row v. -/
def Two (p : Nat) (v : Value) : Nat → Prop := fun k => k = p ∨ v.ownBlock = some k
theorem BsB.bs {w : World} {L n : Nat} {ao : Option Addr} {zs : List Int} (h : BsB w L ao n zs) (hL : L ≤ w.heap.size) : Bs w ao n zs := by
  refine ⟨h.1, h.2.1, ?_⟩
  rcases h.2.2 with h0 | ⟨b, off, h1, h2, h3⟩
  · exact .inl h0
  · exact .inr ⟨b, off, h1, by omega, h3⟩
theorem BsB.fr {S : Nat → Prop} {w w' : World} {L n : Nat} {ao : Option Addr} {zs : List Int} (h : BsB w L ao n zs) (hL : L ≤ w.heap.size) (hf : Fr S w w') (hn : ∀ a, ao = some a → a.block < L → 0 < n → ¬ S a.block) : BsB w' L ao n zs := by
  refine ⟨h.1, h.2.1, ?_⟩
  rcases h.2.2 with h0 | ⟨b, off, h1, h2, h3⟩
  · exact .inl h0
  · by_cases e : n = 0
    · exact .inl e
    · exact .inr ⟨b, off, h1, h2, fun i hi => (hf.cell (q := ⟨b, off + i, none⟩) (Nat.lt_of_lt_of_le h2 hL) (show ¬ S b from hn ⟨b, off, none⟩ h1 h2 (by omega))).trans (h3 i hi)⟩
/-- Another block of that kind has turned. -/
theorem BsB.one {t : TypeId} {w w' : World} {q L n n' c' : Nat} {ao ao' : Option Addr} {zs : List Int} {e : Int} (h : BsB w L ao n zs) (hL : L ≤ w.heap.size) (hf : Fr (One q) w w') (hq : Hd t w q ao' n' c' e) (ht : t ≠ 5) : BsB w' L ao n zs :=
  h.fr hL hf fun a ha _ hn => (h.bs hL).ne hq ht a ha hn
/-- Blocks from L on have turned, its own not. -/
theorem RdP.above {S : Nat → Prop} {w w' : World} {p L : Nat} {s : St} (h : RdP w p L s) (hf : Fr S w w') (hS : ∀ k, S k → L ≤ k) (hp : ¬ S p) : RdP w' p L s := by
  obtain ⟨ao, n, c, h1, h2, h3, h4, h5, h6, h7, h8⟩ := h
  exact ⟨ao, n, c, h1.fr hf hp, h2.fr h7 hf (fun a _ hl _ hx => by have := hS _ hx; omega), h3, h4, h5, h6, Nat.le_trans h7 hf.size, h8⟩
theorem RdP.below {w w' : World} {p L : Nat} {s : St} (h : RdP w p L s) (hb : Below w.heap.size w w') : RdP w' p L s := by
  refine h.above (S := fun k => w.heap.size ≤ k) ⟨hb.os, hb.tape, hb.output, hb.size, fun k hk _ => hb.block k hk⟩ (fun k hk => ?_) ?_
  · obtain ⟨_, _, _, _, _, _, _, _, _, h7, _⟩ := h; omega
  · obtain ⟨_, _, _, h1, _⟩ := h; have := h1.lt; omega
theorem RdP.lt {w : World} {p L : Nat} {s : St} (h : RdP w p L s) : p < w.heap.size := by obtain ⟨_, _, _, h1, _⟩ := h; exact h1.lt
/-- Where a row lies that has grown or gone: where it lay, or in a block that is new. -/
def Lie (w : World) (v v' : Value) : Prop := ∀ k, v'.ownBlock = some k → v.ownBlock = some k ∨ w.heap.size ≤ k
theorem Lie.refl (w : World) (v : Value) : Lie w v v := fun k h => .inl h
theorem Lie.trans {w w1 : World} {v v1 v2 : Value} (h : Lie w v v1) (hs : w.heap.size ≤ w1.heap.size) (h2 : Lie w1 v1 v2) : Lie w v v2 := fun k hk => by
  rcases h2 k hk with h3 | h3
  · exact h k h3
  · exact .inr (by omega)
/-- 'append' to a row of bytes of the call's own, of bytes wherever they lie; and where the new row lies. -/
theorem wpList_append_at (w : World) {ops : Array Oper} {rest : List Oper} {o : Oper} {a : Act} {Q : Exit → Act → World → Prop} (hgd : o.guard = none) (s x : Operand)
    (ho : o.op = .call { callee := .builtin .append, args := #[s, x], argTypes := #[25, 25] })
    (base : Nat) (vo : Option Addr) (n vc : Nat) (xs : List Int) (hs : a.eval s = .slice vo n vc) (hown : w.ownsRow base 5 1 (.slice vo n vc) n (bv xs))
    (ao : Option Addr) (m c : Nat) (zs : List Int) (hx : a.eval x = .slice ao m c) (hb : Bs w ao m zs) (hnil : ao = none → c = 0)
    (hbd : n + m ≤ 100000000) (hbase : base ≤ w.heap.size)
    (h : ∀ ao' c' w', w'.ownsRow base 5 1 (.slice ao' (n + m) c') (n + m) (bv (xs ++ zs)) → w.grownBy w' (Value.slice vo n vc).ownBlock → Lie w (.slice vo n vc) (.slice ao' (n + m) c') → wpList Tryz.prog ops Q rest (a.put o.dst (.slice ao' (n + m) c')) w') :
    wpList Tryz.prog ops Q (o :: rest) a w := by
  obtain ⟨i0, hi, hz0, hz1, hz2⟩ := info_parts infoByte
  obtain ⟨hz, hby, h0⟩ := hb
  cases ao with
  | none =>
    obtain rfl : c = 0 := hnil rfl
    obtain rfl : m = 0 := by
      rcases h0 with h0 | ⟨b, off, h1, _⟩
      · exact h0
      · simp at h1
    obtain rfl : zs = [] := List.eq_nil_of_length_eq_zero hz
    refine wpList_append_own_none hgd s x _ ho base 5 i0 1 Tryz.underlying25 hi _ n (bv xs) hs hown hx ?_
    have := h vo vc w (by simpa using hown) (World.grownBy.refl _ _) (fun k hk => .inl hk)
    simpa using this
  | some ad =>
    refine wpList_append_own_at w hgd s x _ ho base 5 i0 (.int .u8 0) 1 1 Tryz.underlying25 hi hz0 hz1 hz2 rfl (by decide) _ n (bv xs) hs hown ad m c (bv zs) hx (by rw [bv_length]; omega) ?_ (bv_one _) (by unfold maxLen; omega) (by omega) hbase ?_
    · rcases h0 with h0 | ⟨b, off, h1, _, hseg⟩
      · have : zs = [] := List.eq_nil_of_length_eq_zero (by omega)
        subst this
        intro j u hu; simp [bv] at hu
      · obtain rfl := Option.some.inj h1
        have := news_seg hseg m
        rw [List.take_of_length_le (by omega)] at this
        exact this
    · intro v' w' h2 h3 _ h5
      obtain ⟨ao', c', rfl⟩ := owns_shape h2
      refine h ao' c' w' (by rw [bv_append]; exact h2) h3 (fun k hk => ?_)
      rcases h5 with h5 | h5
      · rw [h5] at hk; exact .inl hk
      · rw [h5] at hk; exact .inr (by cases hk; omega)

namespace Cur
/-- A number of bytes, the lowest first. -/
def le : List Int → Int
  | [] => 0
  | x :: xs => x + 256 * le xs
def fl (c : Int) (s : St) : St := if s.2 = 0 then ([], c) else s
def ps (n : Nat) (s : St) : St := if s.1.length < n then fl 2 s else (s.1.drop n, s.2)
def pa (n : Nat) (s : St) : List Int := if s.1.length < n then [] else s.1.take n
def numS (n : Int) (s : St) : St := if 1 ≤ n ∧ n ≤ 4 then ps n.toNat s else fl 1 s
def numA (n : Int) (s : St) : Int := if 1 ≤ n ∧ n ≤ 4 then le (pa n.toNat s) else 0
/-- A number's bytes. -/
def by' : Nat → Int → List Int
  | 0, _ => []
  | n + 1, x => x % 256 :: by' n (x / 256)
def wByt (b : List Int) (s : St) : St := if s.2 = 0 then (s.1 ++ b, 0) else s
def wNum (x n : Int) (s : St) : St := if 1 ≤ n ∧ n ≤ 4 ∧ 0 ≤ x ∧ x < 256 ^ n.toNat then wByt (by' n.toNat x) s else fl 1 s
def wTxt (b : List Int) (s : St) : St := if 255 < b.length then fl 3 s else wByt b (wNum b.length 1 s)
/-- A string's bytes. -/
def sb (s : ByteArray) : List Int := s.data.toList.map (fun b => (b.toNat : Int))
end Cur
end Go.Proofs.YtchcejjoncihkaaGreatDoor

/- The walks of the smallest functions: kind, isWidth, Err, fail, Left, Len, Clone and the reference's fail. -/
namespace Go.Proofs.YtchcejjoncihkaaGreatDoor
set_option linter.unusedVariables false
open Go.RowKit Go.Maps
open Lz (g)
open Cur

set_option maxRecDepth 100000 in
theorem isWidth_any (n : Int) (w : World) :
    Calls Tryz.prog 136 #[.int .i64 n] w fun e w' => e = .returned (.bool (decide (1 ≤ n ∧ n ≤ 4))) ∧ w' = w := by
  by_cases h1 : 1 ≤ n
  · by_cases h2 : n ≤ 4
    · rw [decide_eq_true ⟨h1, h2⟩]
      go_enter Tryz.func136, Tryz.ntmps136
      go_wp2
      go_ret
      exact ⟨rfl, rfl⟩
    · rw [decide_eq_false (fun h => h2 h.2)]
      go_enter Tryz.func136, Tryz.ntmps136
      go_wp2
      go_ret
      exact ⟨rfl, rfl⟩
  · rw [decide_eq_false (fun h => h1 h.1)]
    go_enter Tryz.func136, Tryz.ntmps136
    go_wp2
    go_ret
    exact ⟨rfl, rfl⟩

set_option maxRecDepth 100000 in
theorem Err_any (t : TypeId) (p n c : Nat) (ao : Option Addr) (e0 : Int) (w : World) (h : Hd t w p ao n c e0) :
    Calls Tryz.prog 123 #[.pointer (some ⟨p, 0, none⟩)] w fun e w' => e = .returned (.int .i64 e0) ∧ w' = w := by
  have h1 := h.c1
  clear h
  go_enter Tryz.func123, Tryz.ntmps123
  go_wp2
  go_ret
  exact ⟨rfl, rfl⟩

/-- The first error stays; at it the bytes go. -/
def Failed (t : TypeId) (w : World) (p : Nat) (ao : Option Addr) (n c : Nat) (e k : Int) (w' : World) : Prop :=
  Fr (One p) w w' ∧ ((e = 0 ∧ Hd t w' p none 0 0 k) ∨ (e ≠ 0 ∧ w' = w))
set_option maxRecDepth 100000 in
theorem fail_any (t : TypeId) (p n c : Nat) (ao : Option Addr) (e0 k : Int) (w : World) (h : Hd t w p ao n c e0) :
    Calls Tryz.prog 137 #[.pointer (some ⟨p, 0, none⟩), .int .i64 k] w fun e w' => e = .returned (.tuple #[]) ∧ Failed t w p ao n c e0 k w' := by
  have h1 := h.c1
  have h0 := h.c0
  have f0 := h.f 0
  have f1 := h.f 1
  by_cases he : e0 = 0
  · subst he
    have H : Hid (Failed t w p ao n c 0 k ((w.setCell ⟨p, 0, none⟩ (.slice none 0 0)).setCell ⟨p, 1, none⟩ (.int .i64 k))) :=
      ⟨((Fr.refl (One p) w).set (p := ⟨p, 0, none⟩) _ (fun _ => rfl)).set (p := ⟨p, 1, none⟩) _ (fun _ => rfl), .inl ⟨rfl, (h.set0 none 0 0).set1 k⟩⟩
    clear h
    go_enter Tryz.func137, Tryz.ntmps137
    go_wp2
    go_end0
    exact ⟨rfl, H.out⟩
  · have H : Hid (Failed t w p ao n c e0 k w) := ⟨Fr.refl _ w, .inr ⟨he, rfl⟩⟩
    clear h
    go_enter Tryz.func137, Tryz.ntmps137
    go_wp2
    go_end0
    exact ⟨rfl, H.out⟩



/-- A copy of bytes, in a row that is new. -/
def Copied (w w' : World) (zs : List Int) (r : Ending) : Prop :=
  ∃ ao c, r = .returned (.slice ao zs.length c) ∧ Bs w' ao zs.length zs ∧ zs.length ≤ c ∧ c ≤ 9223372036854775807 ∧ (ao = none → c = 0) ∧ Below w.heap.size w w'
theorem Copied.nil (w : World) : Copied w w [] (.returned (.slice none 0 0)) := ⟨none, 0, rfl, ⟨rfl, fun i => by simp [g], .inl rfl⟩, by simp, by omega, fun _ => rfl, Below.refl _ _⟩
theorem copied_of_owns {w w' : World} {n c : Nat} {ao : Option Addr} {zs : List Int} (h : w'.ownsRow w.heap.size 5 1 (.slice ao n c) n (bv zs)) (hb : Bytes zs) (hbel : Below w.heap.size w w') : Copied w w' zs (.returned (.slice ao n c)) := by
  have hlen : zs.length = n := by have := h.1; rw [bv_length] at this; omega
  subst hlen
  refine ⟨ao, c, rfl, bs_of_owns h hb, cap_of_owns h, ?_, nil_cap h, hbel⟩
  rcases h.2 with ⟨e, _⟩ | ⟨_, _, _, e, _, _, _, h, _⟩
  · simp at e; omega
  · simp at e; unfold maxLen at h; omega
theorem eql_nil (w : World) (a : Option Addr) (n c : Nat) : (binOp .eql 25 (.slice a n c) (.slice none 0 0)).run Tryz.prog w = .ok (.bool a.isNone) w := by
  simp only [binOp]
  simp [run_equal_slice_nil w 25 5 a n c Tryz.underlying25]

set_option maxRecDepth 100000 in
theorem Clone_any (n c : Nat) (ao : Option Addr) (zs : List Int) (w : World) (hb : Bs w ao n zs) (hc : n ≤ c) (hnil : ao = none → c = 0) (hn : n ≤ 100000000) :
    Calls Tryz.prog 67 #[.slice ao n c] w fun r w' => Copied w w' zs r := by
  cases ao with
  | none =>
    obtain rfl : c = 0 := hnil rfl
    obtain rfl : n = 0 := by omega
    obtain rfl : zs = [] := List.eq_nil_of_length_eq_zero hb.1
    have H : Hid (Copied w w [] (.returned (.slice none 0 0))) := Copied.nil w
    clear hb hnil
    have hq : ∀ w : World, (binOp .eql 25 (.slice none 0 0) (.slice none 0 0)).run Tryz.prog w = .ok (.bool true) w := fun w => eql_nil w none 0 0
    go_enter Tryz.func67, Tryz.ntmps67
    go_wp2
    go_ret
    exact H.out
  | some a =>
    clear hnil
    have hq : ∀ w : World, (binOp .eql 25 (.slice (some a) n c) (.slice none 0 0)).run Tryz.prog w = .ok (.bool false) w := fun w => eql_nil w (some a) n c
    have ho := emptyB (w := w) (Nat.le_refl _)
    have hb2 := hb.alloc (.cells #[] 5)
    go_enter Tryz.func67, Tryz.ntmps67
    go_wp2_with (first
      | (at_builtin; refine wpList_append_bs _ rfl (.tmp 5) (.tmp 6) rfl w.heap.size _ _ _ _ rfl ho _ n c zs rfl hb2 (fun h => by simp at h) (by omega) (by simp) ?_; intro ao' c' w1 ho1 hg1))
    go_ret
    have hz : 0 + n = n := by omega
    rw [hz] at ho1
    rw [List.nil_append] at ho1
    exact copied_of_owns ho1 hb.bytes ((((Below.refl _ w).alloc (Nat.le_refl _) _)).grown hg1 (by simp) (fun k e => (ho.lt k e).1))
/-- Bytes in a row that is new since w and may be written. -/
structure New (w w' : World) (ao : Option Addr) (n c : Nat) (zs : List Int) : Prop where
  bs : Bs w' ao n zs
  cap : n ≤ c
  max : c ≤ 9223372036854775807
  nil : ao = none → c = 0
  bel : Below w.heap.size w w'
  own : ∀ a, ao = some a → w.heap.size ≤ a.block ∧ a = ⟨a.block, 0, none⟩ ∧ ∃ cur t, w'.heap[a.block]? = some (.cells cur t (0, 0))
theorem New.none (w : World) : New w w none 0 0 [] := ⟨⟨rfl, fun i => by simp [g], .inl rfl⟩, Nat.le_refl _, by omega, fun _ => rfl, Below.refl _ _, fun a h => by simp at h⟩
theorem New.of_owns {w w' : World} {B n c : Nat} {ao : Option Addr} {zs : List Int} (h : w'.ownsRow B 5 1 (.slice ao n c) n (bv zs)) (hb : Bytes zs) (hB : w.heap.size ≤ B) (hbel : Below w.heap.size w w') : New w w' ao n c zs := by
  refine ⟨bs_of_owns h hb, cap_of_owns h, ?_, nil_cap h, hbel, fun a ha => ?_⟩
  · rcases h.2 with ⟨e, _⟩ | ⟨_, _, _, e, _, _, _, h, _⟩
    · simp at e; omega
    · simp at e; unfold maxLen at h; omega
  · rcases h.2 with ⟨e, _⟩ | ⟨gb, _, cur, e, hg, hgg, _⟩
    · simp at e; rw [e.1] at ha; simp at ha
    · simp at e; rw [e.1] at ha; cases ha; exact ⟨Nat.le_trans hB hg, rfl, cur, _, hgg⟩
/-- Earlier blocks ahead of it. -/
theorem New.from {w0 w w' : World} {ao : Option Addr} {n c : Nat} {zs : List Int} (h : New w w' ao n c zs) (hb : Below w0.heap.size w0 w) : New w0 w' ao n c zs :=
  ⟨h.bs, h.cap, h.max, h.nil, hb.trans (h.bel.mono hb.size), fun a ha => by have := h.own a ha; exact ⟨Nat.le_trans hb.size this.1, this.2⟩⟩
set_option maxRecDepth 100000 in
theorem CloneNew_any (n c : Nat) (ao : Option Addr) (zs : List Int) (w : World) (hb : Bs w ao n zs) (hc : n ≤ c) (hnil : ao = none → c = 0) (hn : n ≤ 100000000) :
    Calls Tryz.prog 67 #[.slice ao n c] w fun r w' => ∃ ao' c', r = .returned (.slice ao' n c') ∧ New w w' ao' n c' zs := by
  cases ao with
  | none =>
    obtain rfl : c = 0 := hnil rfl
    obtain rfl : n = 0 := by omega
    obtain rfl : zs = [] := List.eq_nil_of_length_eq_zero hb.1
    have H : Hid (New w w none 0 0 []) := New.none w
    clear hb hnil
    have hq : ∀ w : World, (binOp .eql 25 (.slice none 0 0) (.slice none 0 0)).run Tryz.prog w = .ok (.bool true) w := fun w => eql_nil w none 0 0
    go_enter Tryz.func67, Tryz.ntmps67
    go_wp2
    go_ret
    exact ⟨_, _, rfl, H.out⟩
  | some a =>
    clear hnil
    have hq : ∀ w : World, (binOp .eql 25 (.slice (some a) n c) (.slice none 0 0)).run Tryz.prog w = .ok (.bool false) w := fun w => eql_nil w (some a) n c
    have ho := emptyB (w := w) (Nat.le_refl _)
    have hb2 := hb.alloc (.cells #[] 5)
    go_enter Tryz.func67, Tryz.ntmps67
    go_wp2_with (first
      | (at_builtin; refine wpList_append_bs _ rfl (.tmp 5) (.tmp 6) rfl w.heap.size _ _ _ _ rfl ho _ n c zs rfl hb2 (fun h => by simp at h) (by omega) (by simp) ?_; intro ao' c' w1 ho1 hg1))
    go_ret
    have hz : 0 + n = n := by omega
    rw [hz] at ho1
    rw [List.nil_append] at ho1
    exact ⟨_, _, rfl, New.of_owns ho1 hb.bytes (Nat.le_refl _) ((((Below.refl _ w).alloc (Nat.le_refl _) _)).grown hg1 (by simp) (fun k e => (ho.lt k e).1))⟩
end Go.Proofs.YtchcejjoncihkaaGreatDoor

/- The walks of the program's reader: Read, pass, Num, Bytes, Text, End. -/
namespace Go.Proofs.YtchcejjoncihkaaGreatDoor
set_option linter.unusedVariables false
open Go.RowKit Go.Maps
open Lz (g)
open Cur

theorem BsB.nil (w : World) (L : Nat) (ao : Option Addr) : BsB w L ao 0 [] := ⟨rfl, fun i => by simp [g], .inl rfl⟩
theorem rd_failed {w w' : World} {p L n c : Nat} {ao : Option Addr} {k : Int} {s : St} (h : RdP w p L s) (hd : Hd 200 w p ao n c s.2) (hk : k ≠ 0) (hf : Failed 200 w p ao n c s.2 k w') : RdP w' p L (fl k s) := by
  obtain ⟨_, _, _, _, _, _, _, _, _, hL, _⟩ := id h
  obtain ⟨hfr, ⟨he, hx⟩ | ⟨he, rfl⟩⟩ := hf
  · unfold fl; rw [if_pos he]
    exact ⟨none, 0, 0, hx, BsB.nil _ _ _, by omega, by omega, by omega, fun _ => rfl, Nat.le_trans hL hfr.size, .inr rfl⟩
  · unfold fl; rw [if_neg he]; exact h
/-- Bytes that are told: where they lie, and how the reader stands. -/
def Passed (w w' : World) (p L : Nat) (s' : St) (zs : List Int) (r : Ending) : Prop :=
  ∃ ao c, r = .returned (.slice ao zs.length c) ∧ BsB w' L ao zs.length zs ∧ zs.length ≤ c ∧ c ≤ 9223372036854775807 ∧ (ao = none → c = 0) ∧ RdP w' p L s' ∧ Fr (One p) w w'
theorem passed_of {w : World} {p L k n c : Nat} {ao : Option Addr} {s : St} (h : RdP w p L s) (hd : Hd 200 w p ao n c s.2) (hb : BsB w L ao n s.1) (hnc : n ≤ c) (hc : c ≤ 9223372036854775807) (hn : n ≤ 1000000) (hnil : ao = none → c = 0) (hL : L ≤ w.heap.size) (hcan : s.2 = 0 ∨ s.1 = []) (hk : k ≤ n) :
    Passed w (w.setCell ⟨p, 0, none⟩ (.slice (if c = k then ao else Option.map (fun x => x.add k) ao) (n - k) (c - k))) p L (ps k s) (pa k s) (.returned (.slice ao k c)) := by
  have hfr : Fr (One p) w (w.setCell ⟨p, 0, none⟩ (.slice (if c = k then ao else Option.map (fun x => x.add k) ao) (n - k) (c - k))) := (Fr.refl (One p) w).set (p := ⟨p, 0, none⟩) _ (fun _ => rfl)
  have hlen := hb.1
  have e1 : ps k s = (s.1.drop k, s.2) := by unfold ps; rw [if_neg (by omega)]
  have e2 : pa k s = s.1.take k := by unfold pa; rw [if_neg (by omega)]
  have e3 : (s.1.take k).length = k := by simp; omega
  have hb1 := hb.one hL hfr hd (by decide)
  rw [e1, e2]
  refine ⟨ao, c, by rw [e3], ?_, by omega, hc, hnil, ⟨_, n - k, c - k, hd.set0 _ _ _, hb1.rest k hk hnc, by omega, by omega, by omega, ?_, Nat.le_trans hL hfr.size, ?_⟩, hfr⟩
  · rw [e3]
    refine ⟨e3, bytes_take hb1.2.1 k, ?_⟩
    by_cases e : k = 0
    · exact .inl e
    · rcases hb1.2.2 with h0 | ⟨b, off, h1, h2, h3⟩
      · omega
      · refine .inr ⟨b, off, h1, h2, ?_⟩
        have := h3.cut 0 k
        simpa using this
  · intro e
    by_cases e4 : c = k
    · omega
    · rw [if_neg e4] at e
      cases ao with
      | none => have := hnil rfl; omega
      | some a => simp at e
  · rcases hcan with hc0 | hc0
    · exact .inl hc0
    · exact .inr (by simp [hc0])

set_option maxRecDepth 100000 in
theorem pass_any (p L k : Nat) (s : St) (w : World) (h : RdP w p L s) (hk : k ≤ 9223372036854775807) :
    Calls Tryz.prog 138 #[.pointer (some ⟨p, 0, none⟩), .int .i64 k] w fun r w' => Passed w w' p L (ps k s) (pa k s) r := by
  have hR := id h
  obtain ⟨ao, n, c, hd, hb, hnc, hc, hn, hnil, hL, hcan⟩ := h
  have h0 := hd.c0
  have f0 := hd.f 0
  have HD : Hid (Hd 200 w p ao n c s.2) := hd
  have HR : Hid (RdP w p L s) := hR
  by_cases hlt : n < k
  · have hl : s.1.length < k := by rw [hb.1]; exact hlt
    have e1 : ps k s = fl 2 s := by unfold ps; rw [if_pos hl]
    have e2 : pa k s = [] := by unfold pa; rw [if_pos hl]
    rw [e1, e2]
    clear e1 e2 hl hb hcan hnil hd hR
    go_enter Tryz.func138, Tryz.ntmps138
    go_wp2_with fail
    refine (fail_any 200 p n c ao s.2 2 w HD.out).mono ?_
    rintro r wx ⟨rfl, hF⟩
    have HX : Hid (RdP wx p L (fl 2 s)) := rd_failed HR.out HD.out (by decide) hF
    have HF : Hid (Fr (One p) w wx) := hF.1
    clear hF
    go_wp2
    go_ret
    exact ⟨none, 0, rfl, BsB.nil _ _ _, by simp, by omega, fun _ => rfl, HX.out, HF.out⟩
  · have H1 : Hid (c = k → Passed w (w.setCell ⟨p, 0, none⟩ (.slice ao (n - k) 0)) p L (ps k s) (pa k s) (.returned (.slice ao k k))) := fun e => by
      have := passed_of hR hd hb hnc hc hn hnil hL hcan (by omega : k ≤ n)
      rw [if_pos e] at this
      subst e
      rw [Nat.sub_self] at this
      exact this
    have H2 : Hid (¬ c = k → Passed w (w.setCell ⟨p, 0, none⟩ (.slice (Option.map (fun x => x.add k) ao) (n - k) (c - k))) p L (ps k s) (pa k s) (.returned (.slice ao k c))) := fun e => by
      have := passed_of hR hd hb hnc hc hn hnil hL hcan (by omega : k ≤ n)
      rw [if_neg e] at this
      exact this
    clear hb hcan hnil hd hR
    go_enter Tryz.func138, Tryz.ntmps138
    go_wp2
    · go_ret
      exact H1.out (by assumption)
    · go_ret
      exact H2.out (by assumption)

/-- Bits that do not meet. -/
theorem ofInt_i64 (a : Nat) (ha : a < 18446744073709551616) : (BitVec.ofInt 64 (a : Int)).toNat = a := by
  rw [BitVec.toNat_ofInt]; omega
theorem or_add {x c m : Nat} (hx : x < 2 ^ m) (hc : c ≤ 255) (hm : m ≤ 24) : bits .or .i64 (x : Int) ((c * 2 ^ m : Nat) : Int) = ((x + c * 2 ^ m : Nat) : Int) := by
  have h2 : 2 ^ m ≤ 16777216 := by
    have := Nat.pow_le_pow_right (n := 2) (by omega) hm
    omega
  have h3 : c * 2 ^ m ≤ 255 * 16777216 := Nat.mul_le_mul hc h2
  have e : x ||| c * 2 ^ m = x + c * 2 ^ m := by
    have := Nat.shiftLeft_add_eq_or_of_lt hx c
    rw [Nat.shiftLeft_eq, Nat.or_comm] at this
    omega
  show IntKind.i64.wrap ((BitVec.ofInt 64 (x : Int) ||| BitVec.ofInt 64 ((c * 2 ^ m : Nat) : Int)).toNat : Int) = _
  rw [BitVec.toNat_or, ofInt_i64 x (by omega), ofInt_i64 _ (by omega), e]
  rw [IntKind.wrap_i64]; omega
theorem pow256 {m n : Nat} (h : m ≤ n) : (256 : Int) ^ m ≤ 256 ^ n := by
  have h1 := Nat.pow_le_pow_right (n := 256) (by omega) h
  have e : ∀ k : Nat, ((256 ^ k : Nat) : Int) = (256 : Int) ^ k := fun k => by rw [Int.natCast_pow]; rfl
  rw [← e, ← e]
  exact Int.ofNat_le.2 h1
theorem le_append (xs ys : List Int) : le (xs ++ ys) = le xs + 256 ^ xs.length * le ys := by
  induction xs with
  | nil => simp [le]
  | cons x xs ih =>
    simp only [List.cons_append, le, ih, List.length_cons, Int.pow_succ, Int.mul_add]
    rw [Int.mul_comm (256 ^ xs.length) 256, Int.mul_assoc, Int.add_assoc]
theorem le_bound {zs : List Int} (h : Bytes zs) : 0 ≤ le zs ∧ le zs < 256 ^ zs.length := by
  induction zs with
  | nil => simp [le]
  | cons x xs ih =>
    have hx := h x (by simp)
    have := ih (fun y hy => h y (by simp [hy]))
    simp only [le, List.length_cons, Int.pow_succ]
    omega
theorem le_take_lt {zs : List Int} (h : Bytes zs) (i : Nat) : le (zs.take i) < 256 ^ i := by
  have h1 := (le_bound (h.take i)).2
  refine Int.lt_of_lt_of_le h1 ?_
  exact pow256 (by simp; omega)
theorem le_next (zs : List Int) (i x y : Nat) (hi : i < zs.length) (hx : (x : Int) = le (zs.take i)) (hy : g zs i = (y : Int)) (m : Nat) (hm : m = 256 ^ i) : ((x + y * m : Nat) : Int) = le (zs.take (i + 1)) := by
  rw [List.take_succ_eq_append_getElem hi, le_append, ← hx, ← Lz.g_lt _ _ hi, hy]
  simp only [le, Int.mul_zero, Int.add_zero]
  rw [List.length_take, Nat.min_eq_left (by omega), hm]
  have : ((y * 256 ^ i : Nat) : Int) = 256 ^ i * (y : Int) := by rw [Int.natCast_mul, Int.natCast_pow, Int.mul_comm]; rfl
  rw [Int.natCast_add, this]

set_option maxRecDepth 100000 in
theorem Num_any (p L : Nat) (n : Int) (s : St) (w : World) (h : RdP w p L s) (hn : -9223372036854775808 ≤ n ∧ n ≤ 9223372036854775807) :
    Calls Tryz.prog 85 #[.pointer (some ⟨p, 0, none⟩), .int .i64 n] w fun r w' => r = .returned (.int .i64 (numA n s)) ∧ RdP w' p L (numS n s) ∧ Fr (One p) w w' := by
  have HR : Hid (RdP w p L s) := h
  by_cases hw : 1 ≤ n ∧ n ≤ 4
  · obtain ⟨k, rfl⟩ : ∃ k : Nat, n = (k : Int) := ⟨n.toNat, by omega⟩
    have e1 : numS k s = ps k s := by unfold numS; rw [if_pos hw]; simp
    have e2 : numA k s = le (pa k s) := by unfold numA; rw [if_pos hw]; simp
    rw [e1, e2]
    have hd : decide (1 ≤ (k : Int) ∧ (k : Int) ≤ 4) = true := decide_eq_true hw
    clear e1 e2 h hn
    go_enter Tryz.func85, Tryz.ntmps85
    go_wp2_with fail
    refine (isWidth_any k w).mono ?_
    rintro r wx ⟨rfl, rfl⟩
    rw [hd]
    go_wp2_with fail
    refine (pass_any p L k s wx HR.out (by omega)).mono ?_
    rintro r w1 ⟨ao, c, rfl, hb, hc, hc2, hnil, hR1, hF1⟩
    generalize hzs : pa k s = zs at *
    have hz4 : zs.length ≤ 4 := by rw [← hzs]; unfold pa; split <;> simp; omega
    have HX : Hid (le zs = le zs) := rfl
    generalize hL : le zs = R
    have HL : Hid (le zs = R) := hL
    have HZ : Hid (pa k s = zs) := hzs
    clear hL hzs hd hw HX
    have HR1 : Hid (RdP w1 p L (ps k s)) := hR1
    have HF1 : Hid (Fr (One p) wx w1) := hF1
    clear hR1 hF1 hnil HR
    obtain ⟨hlen, hby, hseg⟩ := hb
    clear hlen
    have HB4 : Hid (Bytes zs) := Bytes.of_g hby
    go_wp2
    go_loopw [5, 19] (fun s5 s19 wr => ∃ i x : Nat, s5 = .int .i64 x ∧ s19 = .int .i64 i ∧ i ≤ zs.length ∧ (x : Int) = le (zs.take i) ∧ wr = w1) (fun _ s19 _ => zs.length - (intOf s19).toNat)
    case atStart => exact ⟨0, 0, rfl, rfl, by omega, by simp [le], rfl⟩
    case round =>
      obtain ⟨i, x, rfl, rfl, hi, hx, rfl⟩ := hrel
      have HX : Hid ((x : Int) = le (zs.take i)) := hx
      by_cases hlt : i < zs.length
      · rcases hseg with h0 | ⟨b, off, rfl, hbl, hsg⟩
        · omega
        have hc1 := hsg i (by omega)
        have hcb := hby i
        generalize hq : g zs i = q at hc1 hcb
        obtain ⟨y, rfl⟩ : ∃ y : Nat, q = (y : Int) := ⟨q.toNat, by omega⟩
        clear hx hsg hby
        have hB4 := HB4.out
        obtain rfl | rfl | rfl | rfl : i = 0 ∨ i = 1 ∨ i = 2 ∨ i = 3 := by omega
        · have e3 : bits .or .i64 (x : Int) (y : Int) = ((x + y * 1 : Nat) : Int) := by
            have := or_add (x := x) (c := y) (m := 0) (by have := le_take_lt hB4 0; have := HX.out; omega) (by omega) (by omega)
            simpa using this
          have H9 : Hid (((x + y * 1 : Nat) : Int) = le (zs.take (0 + 1))) := le_next zs 0 x y hlt HX.out hq 1 rfl
          rw [Nat.add_zero] at hc1
          rw [show ((0 : Nat) : Int) = 0 from rfl]
          generalize x + y * 1 = z at *
          go_wp2
          go_roundw
          case rel => exact ⟨0 + 1, z, rfl, by go_num, by omega, H9.out, trivial⟩
          case measure => simp [intOf]; omega
        · have e3 : bits .or .i64 (x : Int) ((y : Int) * 256) = ((x + y * 256 : Nat) : Int) := by
            have := or_add (x := x) (c := y) (m := 8) (by have := le_take_lt hB4 1; have := HX.out; omega) (by omega) (by omega)
            simpa using this
          have H9 : Hid (((x + y * 256 : Nat) : Int) = le (zs.take (1 + 1))) := le_next zs 1 x y hlt HX.out hq 256 rfl
          generalize x + y * 256 = z at *
          go_wp2
          go_roundw
          case rel => exact ⟨1 + 1, z, rfl, by go_num, by omega, H9.out, trivial⟩
          case measure => simp [intOf]; omega
        · have e3 : bits .or .i64 (x : Int) ((y : Int) * 65536) = ((x + y * 65536 : Nat) : Int) := by
            have := or_add (x := x) (c := y) (m := 16) (by have := le_take_lt hB4 2; have := HX.out; omega) (by omega) (by omega)
            simpa using this
          have H9 : Hid (((x + y * 65536 : Nat) : Int) = le (zs.take (2 + 1))) := le_next zs 2 x y hlt HX.out hq 65536 rfl
          generalize x + y * 65536 = z at *
          go_wp2
          go_roundw
          case rel => exact ⟨2 + 1, z, rfl, by go_num, by omega, H9.out, trivial⟩
          case measure => simp [intOf]; omega
        · have e3 : bits .or .i64 (x : Int) ((y : Int) * 16777216) = ((x + y * 16777216 : Nat) : Int) := by
            have := or_add (x := x) (c := y) (m := 24) (by have := le_take_lt hB4 3; have := HX.out; omega) (by omega) (by omega)
            simpa using this
          have H9 : Hid (((x + y * 16777216 : Nat) : Int) = le (zs.take (3 + 1))) := le_next zs 3 x y hlt HX.out hq 16777216 rfl
          generalize x + y * 16777216 = z at *
          go_wp2
          go_roundw
          case rel => exact ⟨3 + 1, z, rfl, by go_num, by omega, H9.out, trivial⟩
          case measure => simp [intOf]; omega
      · obtain rfl : i = zs.length := by omega
        have hxR : (x : Int) = R := by
          have := HX.out
          rw [List.take_length] at this
          rw [this]; exact HL.out
        clear hx
        go_wp2
        go_ret
        exact ⟨by rw [HZ.out, HL.out, ← hxR]; rfl, HR1.out, HF1.out⟩
  · have e1 : numS n s = fl 1 s := by unfold numS; rw [if_neg hw]
    have e2 : numA n s = 0 := by unfold numA; rw [if_neg hw]
    rw [e1, e2]
    have hd : decide (1 ≤ n ∧ n ≤ 4) = false := decide_eq_false hw
    obtain ⟨ao, m, c, hx, _⟩ := id h
    have HD : Hid (Hd 200 w p ao m c s.2) := hx
    clear e1 e2 h hn hx
    go_enter Tryz.func85, Tryz.ntmps85
    go_wp2_with fail
    refine (isWidth_any n w).mono ?_
    rintro r wx ⟨rfl, rfl⟩
    rw [hd]
    go_wp2_with fail
    refine (fail_any 200 p m c ao s.2 1 wx HD.out).mono ?_
    rintro r w1 ⟨rfl, hF⟩
    have HX : Hid (RdP w1 p L (fl 1 s)) := rd_failed HR.out HD.out (by decide) hF
    have HF : Hid (Fr (One p) wx w1) := hF.1
    clear hF
    go_wp2
    go_ret
    exact ⟨rfl, HX.out, HF.out⟩

set_option maxRecDepth 100000 in
theorem Read_any (n c : Nat) (ao : Option Addr) (zs : List Int) (w : World) (hb : Bs w ao n zs) (hc : n ≤ c) (hnil : ao = none → c = 0) (hn : n ≤ 1000000) :
    Calls Tryz.prog 84 #[.slice ao n c] w fun r w' => ∃ p, r = .returned (.pointer (some ⟨p, 0, none⟩)) ∧ w.heap.size ≤ p ∧ RdP w' p w'.heap.size (zs, 0) ∧ Below w.heap.size w w' := by
  have HB : Hid (Bs w ao n zs) := hb
  have hlen := hb.1
  clear hb
  go_enter Tryz.func84, Tryz.ntmps84
  go_wp2_with fail
  refine (Clone_any n c ao zs w HB.out hc hnil (by omega)).mono ?_
  rintro r w1 ⟨ao', c', rfl, hb', hc', hc2, hnil', hbel⟩
  have HB' : Hid (Bs w1 ao' zs.length zs) := hb'
  have HN' : Hid (ao' = none → c' = 0) := hnil'
  have HW : Hid (Below w.heap.size w w1) := hbel
  clear hb' hbel hnil' hnil
  go_wp2
  go_ret
  subst hlen
  have hb2 := HB'.out.alloc (.cells #[.slice ao' zs.length c', .int .i64 0] 200)
  exact ⟨w1.heap.size, rfl, HW.out.size, ⟨ao', zs.length, c', Hd.new _ _ _ _ _ _, hb2.toB, hc', hc2, hn, HN'.out, Nat.le_refl _, .inl rfl⟩, HW.out.alloc HW.out.size _⟩
end Go.Proofs.YtchcejjoncihkaaGreatDoor

/- The walks of the program's writer: Bytes, Num, Text, Done. -/
namespace Go.Proofs.YtchcejjoncihkaaGreatDoor
set_option linter.unusedVariables false
open Go.RowKit Go.Maps
open Lz (g)
open Cur

/-- What a call leaves of a writer. -/
def WrDone (w w' : World) (p B : Nat) (v : Value) (s' : St) : Prop := ∃ v', WrP w' p B v' s' ∧ Fr (Two p v) w w' ∧ Lie w v v'
theorem WrP.shape {w : World} {p B : Nat} {v : Value} {s : St} (h : WrP w p B v s) : ∃ ao n c, v = .slice ao n c ∧ Hd 156 w p ao n c s.2 ∧ s.1.length = n := by
  obtain ⟨ao, n, c, h1, h2, h3, _⟩ := h
  exact ⟨ao, n, c, h1, h2, by have := h3.1; rw [bv_length] at this; omega⟩
theorem WrP.refl {w : World} {p B : Nat} {v : Value} {s : St} (h : WrP w p B v s) : WrDone w w p B v s := ⟨v, h, Fr.refl _ _, Lie.refl _ _⟩
theorem wr_failed {w w' : World} {p B n c : Nat} {ao : Option Addr} {k : Int} {s : St} (h : WrP w p B (.slice ao n c) s) (hf : Failed 156 w p ao n c s.2 k w') : WrDone w w' p B (.slice ao n c) (fl k s) := by
  obtain ⟨hfr, ⟨he, hx⟩ | ⟨he, rfl⟩⟩ := hf
  · unfold fl; rw [if_pos he]
    exact ⟨.slice none 0 0, ⟨none, 0, 0, rfl, hx, World.ownsRow_nil _ _ _ _, Bytes.nil, .inr rfl⟩, hfr.mono (fun i _ h => .inl h), fun k hk => by simp [Value.ownBlock] at hk⟩
  · unfold fl; rw [if_neg he]; exact h.refl
/-- One call behind the other. -/
theorem WrDone.trans {w w1 w2 : World} {p B : Nat} {v v1 : Value} {s2 : St} (hf : Fr (Two p v) w w1) (hl : Lie w v v1) (h2 : WrDone w1 w2 p B v1 s2) : WrDone w w2 p B v s2 := by
  obtain ⟨v2, h3, h4, h5⟩ := h2
  refine ⟨v2, h3, hf.trans h4 (fun i hi hx => ?_), hl.trans hf.size h5⟩
  rcases hx with hx | hx
  · exact .inl hx
  · rcases hl i hx with h6 | h6
    · exact .inr h6
    · omega
/-- The writer, where new blocks alone have come. -/
theorem WrP.below {w w' : World} {p B : Nat} {v : Value} {s : St} (h : WrP w p B v s) (hb : Below w.heap.size w w') : WrP w' p B v s := by
  obtain ⟨ao, n, c, rfl, h2, h3, h4⟩ := h
  have hf : Fr (fun _ => False) w w' := Fr.of_below hb
  exact ⟨ao, n, c, rfl, h2.fr hf id, owns_fr h3 hf (fun _ _ => id), h4⟩
theorem wr_byt {w w1 : World} {p B n c m : Nat} {ao ao' : Option Addr} {c' : Nat} {zs : List Int} {s : St} (h : WrP w p B (.slice ao n c) s) (h0 : s.2 = 0) (ho : w1.ownsRow B 5 1 (.slice ao' m c') m (bv (s.1 ++ zs))) (hg : w.grownBy w1 (Value.slice ao n c).ownBlock) (hl : Lie w (.slice ao n c) (.slice ao' m c')) (hz : Bytes zs) :
    WrDone w (w1.setCell ⟨p, 0, none⟩ (.slice ao' m c')) p B (.slice ao n c) (wByt zs s) := by
  obtain ⟨_, _, _, hv, h2, h3, h4, h5⟩ := h
  obtain ⟨rfl, rfl, rfl⟩ : ao = _ ∧ n = _ ∧ c = _ := by simpa using hv
  have hne := owns_ne_hd h3 h2 (by decide)
  have hf : Fr (Two p (.slice ao n c)) w w1 := Fr.of_grown hg (fun k hk => .inr hk)
  have hd1 : Hd 156 w1 p ao n c s.2 := h2.fr (Fr.of_grown (S := fun k => (Value.slice ao n c).ownBlock = some k) hg (fun k hk => hk)) hne
  have hd2 := hd1.set0 ao' m c'
  have e : wByt zs s = (s.1 ++ zs, 0) := by unfold wByt; rw [if_pos h0]
  rw [e]
  refine ⟨.slice ao' m c', ⟨ao', m, c', rfl, by rw [h0] at hd2; exact hd2, ?_, h4.append hz, .inl rfl⟩, hf.set (p := ⟨p, 0, none⟩) _ (fun _ => .inl rfl), hl⟩
  refine owns_fr (S := One p) ho ((Fr.refl _ _).set (p := ⟨p, 0, none⟩) _ (fun _ => rfl)) (fun k hk hx => ?_)
  have := owns_ne_hd ho hd1 (by decide)
  rw [hk, hx] at this
  exact this rfl

set_option maxRecDepth 100000 in
theorem wBytes_any (p B n c : Nat) (ao : Option Addr) (v : Value) (zs : List Int) (s : St) (w : World) (h : WrP w p B v s) (hB : B ≤ w.heap.size) (hb : Bs w ao n zs) (hnil : ao = none → c = 0) (hbd : s.1.length + n ≤ 100000000) :
    Calls Tryz.prog 89 #[.pointer (some ⟨p, 0, none⟩), .slice ao n c] w fun r w' => r = .returned (.tuple #[]) ∧ WrDone w w' p B v (wByt zs s) := by
  have HW : Hid (WrP w p B v s) := h
  obtain ⟨vo, vn, vc, rfl, hd, ho, hby, hcan⟩ := h
  have hlen : s.1.length = vn := by have := ho.1; rw [bv_length] at this; omega
  have h0 := hd.c0
  have h1 := hd.c1
  by_cases he : s.2 = 0
  · have hne := owns_ne_hd ho hd (by decide)
    have HD : Hid (Hd 156 w p vo vn vc s.2) := hd
    have HZ : Hid (Bytes zs) := hb.bytes
    have HE : Hid (s.2 = 0) := he
    rw [he] at h1
    clear hd he
    go_enter Tryz.func89, Tryz.ntmps89
    go_wp2_with (first
      | (at_builtin
         refine wpList_append_at _ rfl (.tmp 15) (.tmp 16) rfl B vo vn vc s.1 rfl ho ao n c zs rfl hb hnil (by omega) hB ?_
         intro ao' c' w1 ho1 hg1 hl1
         have hd1 : Hd 156 w1 p vo vn vc s.2 := HD.out.fr (Fr.of_grown (S := fun k => (Value.slice vo vn vc).ownBlock = some k) hg1 (fun k hk => hk)) hne
         have h01 := hd1.c0
         have f01 := hd1.f 0
         have HG : Hid (w.grownBy w1 (Value.slice vo vn vc).ownBlock) := hg1
         have HL : Hid (Lie w (.slice vo vn vc) (.slice ao' (vn + n) c')) := hl1
         have HO : Hid (w1.ownsRow B 5 1 (.slice ao' (vn + n) c') (vn + n) (bv (s.1 ++ zs))) := ho1
         clear hg1 hl1 ho1 hd1))
    go_end0
    exact ⟨rfl, wr_byt HW.out HE.out HO.out HG.out HL.out HZ.out⟩
  · have HX : Hid (WrDone w w p B (.slice vo vn vc) (wByt zs s)) := by
      have : wByt zs s = s := by unfold wByt; rw [if_neg he]
      rw [this]; exact HW.out.refl
    clear hd ho hby hcan hb
    go_enter Tryz.func89, Tryz.ntmps89
    go_wp2
    go_end0
    exact ⟨rfl, HX.out⟩

set_option maxRecDepth 100000 in
theorem Done_any (p B : Nat) (v : Value) (s : St) (w : World) (h : WrP w p B v s) (hbd : s.1.length ≤ 100000000) :
    Calls Tryz.prog 93 #[.pointer (some ⟨p, 0, none⟩)] w fun r w' => Copied w w' s.1 r := by
  obtain ⟨vo, vn, vc, rfl, hd, ho, hby, hcan⟩ := h
  have hlen : s.1.length = vn := by have := ho.1; rw [bv_length] at this; omega
  have h0 := hd.c0
  have HB : Hid (Bs w vo vn s.1) := bs_of_owns ho hby
  have HN : Hid (vo = none → vc = 0) := nil_cap ho
  have hc := cap_of_owns ho
  clear hd ho
  go_enter Tryz.func93, Tryz.ntmps93
  go_wp2_with fail
  refine (Clone_any vn vc vo s.1 w HB.out hc HN.out (by omega)).mono ?_
  rintro r w2 ⟨ao', c', rfl, hb', hc', hc2, hnil', hbel⟩
  have HX : Hid (Copied w w2 s.1 (.returned (.slice ao' vn c'))) := ⟨ao', c', by rw [hlen], hb', hc', hc2, hnil', hbel⟩
  clear hb' hbel hnil'
  go_wp2
  go_ret
  exact HX.out

/-- The number's cells, the first i of them laid. -/
def nc (x : Int) (i : Nat) : Array Value := #[.int .u8 (if 0 < i then x % 256 else 0), .int .u8 (if 1 < i then x / 256 % 256 else 0), .int .u8 (if 2 < i then x / 65536 % 256 else 0), .int .u8 (if 3 < i then x / 16777216 % 256 else 0)]
theorem by_length : ∀ (n : Nat) (x : Int), (by' n x).length = n
  | 0, _ => rfl
  | n + 1, x => by simp [by', by_length n]
theorem by_bytes : ∀ (n : Nat) (x : Int), Bytes (by' n x)
  | 0, _ => Bytes.nil
  | n + 1, x => fun y hy => by
    rcases List.mem_cons.1 hy with rfl | hy
    · omega
    · exact by_bytes n _ y hy
theorem nc_bs {w : World} {q n : Nat} {x : Int} (hq : w.heap[q]? = some (.cells (nc x n) 203 (0, 0))) (hn : 1 ≤ n ∧ n ≤ 4) (hlt : q < w.heap.size) : Bs w (some ⟨q, 0, none⟩) n (by' n x) := by
  refine ⟨by_length _ _, (by_bytes _ _).g, .inr ⟨q, 0, rfl, hlt, fun i hi => ?_⟩⟩
  rw [by_length] at hi
  simp only [World.cell?, hq, Nat.zero_add]
  have e2 : x / 256 / 256 = x / 65536 := by omega
  have e3 : x / 65536 / 256 = x / 16777216 := by omega
  obtain rfl | rfl | rfl | rfl : n = 1 ∨ n = 2 ∨ n = 3 ∨ n = 4 := by omega
  · obtain rfl : i = 0 := by omega
    simp [nc, by', g]
  · obtain rfl | rfl : i = 0 ∨ i = 1 := by omega
    all_goals simp [nc, by', g]
  · obtain rfl | rfl | rfl : i = 0 ∨ i = 1 ∨ i = 2 := by omega
    all_goals simp [nc, by', g, e2]
  · obtain rfl | rfl | rfl | rfl : i = 0 ∨ i = 1 ∨ i = 2 ∨ i = 3 := by omega
    all_goals simp [nc, by', g, e2, e3]

set_option maxRecDepth 100000 in
theorem wNum_fits (p B : Nat) (v : Value) (x n : Int) (s : St) (w : World) (h : WrP w p B v s) (hB : B ≤ w.heap.size) (hbd : s.1.length ≤ 10000000) (hx : -9223372036854775808 ≤ x ∧ x ≤ 9223372036854775807) (hw : 1 ≤ n ∧ n ≤ 4 ∧ 0 ≤ x ∧ x < 256 ^ n.toNat) :
    Calls Tryz.prog 91 #[.pointer (some ⟨p, 0, none⟩), .int .i64 x, .int .i64 n] w fun r w' => r = .returned (.tuple #[]) ∧ WrDone w w' p B v (wByt (by' n.toNat x) s) := by
    have HW : Hid (WrP w p B v s) := h
    obtain ⟨hw1, hw2, hw3, hw4⟩ := hw
    have hd : decide (1 ≤ n ∧ n ≤ 4) = true := decide_eq_true ⟨hw1, hw2⟩
    obtain rfl | rfl | rfl | rfl : n = 1 ∨ n = 2 ∨ n = 3 ∨ n = 4 := by omega
    · have d1 : decide (x < 0) = false := decide_eq_false (by omega)
      have d2 : decide ((256 : Int) ≤ x) = false := decide_eq_false (by have h9 : x < 256 := hw4; omega)
      have HX0 : Hid (0 ≤ x ∧ x < 256) := ⟨hw3, hw4⟩
      clear hw1 hw2 hw4 h
      go_enter Tryz.func91, Tryz.ntmps91
      go_wp2_with fail
      refine (isWidth_any 1 w).mono ?_
      rintro r wx ⟨rfl, rfl⟩
      rw [hd]
      go_wp2
      go_loopw [27] (fun s27 wr => ∃ i : Nat, s27 = .int .i64 i ∧ i ≤ 1 ∧ wr.heap[wx.heap.size]? = some (.cells (nc x i) 203 (0, 0)) ∧ Below wx.heap.size wx wr) (fun s27 _ => 1 - (intOf s27).toNat)
      case atStart => exact ⟨0, rfl, by omega, heap_alloc_new wx _, (Below.refl _ _).alloc (Nat.le_refl _) _⟩
      case round =>
        obtain ⟨i, rfl, hi, hq, hbl⟩ := hrel
        have HB1 : Hid (Below wx.heap.size wx wr) := hbl
        clear hbl
        obtain rfl | rfl : i = 0 ∨ i = 1 := by omega
        · have hcell : wr.cell? ⟨wx.heap.size, 0, none⟩ = some (.int .u8 0) := by simp [World.cell?, hq, nc]
          have hfz : wr.frozen? ⟨wx.heap.size, 0, none⟩ = false := by simp [World.frozen?, hq]
          have HN : Hid ((wr.setCell ⟨wx.heap.size, 0, none⟩ (.int .u8 (x % 256))).heap[wx.heap.size]? = some (.cells (nc x (0 + 1)) 203 (0, 0))) := by
            show _ = _
            rw [heap_setCell_self hq]; rfl
          have HB2 : Hid (Below wx.heap.size wx (wr.setCell ⟨wx.heap.size, 0, none⟩ (.int .u8 (x % 256)))) := HB1.out.setCell (by simp) _
          clear hq
          rw [show ((0 : Nat) : Int) = 0 from rfl]
          go_wp2
          go_roundw
          case rel => exact ⟨0 + 1, by go_num, by omega, HN.out, HB2.out⟩
          case measure => simp [intOf]
        · have HS : Hid (Bs wr (some ⟨wx.heap.size, 0, none⟩) 1 (by' 1 x)) := nc_bs hq (by omega) (heap_lt hq)
          have HW2 : Hid (WrP wr p B v s) := HW.out.below HB1.out
          have hB2 : B ≤ wr.heap.size := Nat.le_trans hB HB1.out.size
          clear hq
          go_wp2_with fail
          refine (wBytes_any p B 1 4 _ v (by' 1 x) s wr HW2.out hB2 HS.out (fun h => by simp at h) (by omega)).mono ?_
          rintro r w2 ⟨rfl, hD⟩
          have HDn : Hid (WrDone wx w2 p B v (wByt (by' 1 x) s)) := WrDone.trans (Fr.of_below HB1.out) (Lie.refl _ _) hD
          clear hD
          go_wp2
          go_end0
          exact ⟨rfl, HDn.out⟩
    · have d1 : decide (x < 0) = false := decide_eq_false (by omega)
      have d2 : decide ((65536 : Int) ≤ x) = false := decide_eq_false (by have h9 : x < 65536 := hw4; omega)
      have HX0 : Hid (0 ≤ x ∧ x < 65536) := ⟨hw3, hw4⟩
      clear hw1 hw2 hw4 h
      go_enter Tryz.func91, Tryz.ntmps91
      go_wp2_with fail
      refine (isWidth_any 2 w).mono ?_
      rintro r wx ⟨rfl, rfl⟩
      rw [hd]
      go_wp2
      go_loopw [27] (fun s27 wr => ∃ i : Nat, s27 = .int .i64 i ∧ i ≤ 2 ∧ wr.heap[wx.heap.size]? = some (.cells (nc x i) 203 (0, 0)) ∧ Below wx.heap.size wx wr) (fun s27 _ => 2 - (intOf s27).toNat)
      case atStart => exact ⟨0, rfl, by omega, heap_alloc_new wx _, (Below.refl _ _).alloc (Nat.le_refl _) _⟩
      case round =>
        obtain ⟨i, rfl, hi, hq, hbl⟩ := hrel
        have HB1 : Hid (Below wx.heap.size wx wr) := hbl
        clear hbl
        obtain rfl | rfl | rfl : i = 0 ∨ i = 1 ∨ i = 2 := by omega
        · have hcell : wr.cell? ⟨wx.heap.size, 0, none⟩ = some (.int .u8 0) := by simp [World.cell?, hq, nc]
          have hfz : wr.frozen? ⟨wx.heap.size, 0, none⟩ = false := by simp [World.frozen?, hq]
          have HN : Hid ((wr.setCell ⟨wx.heap.size, 0, none⟩ (.int .u8 (x % 256))).heap[wx.heap.size]? = some (.cells (nc x (0 + 1)) 203 (0, 0))) := by
            show _ = _
            rw [heap_setCell_self hq]; rfl
          have HB2 : Hid (Below wx.heap.size wx (wr.setCell ⟨wx.heap.size, 0, none⟩ (.int .u8 (x % 256)))) := HB1.out.setCell (by simp) _
          clear hq
          rw [show ((0 : Nat) : Int) = 0 from rfl]
          go_wp2
          go_roundw
          case rel => exact ⟨0 + 1, by go_num, by omega, HN.out, HB2.out⟩
          case measure => simp [intOf]
        · have hcell : wr.cell? ⟨wx.heap.size, 1, none⟩ = some (.int .u8 0) := by simp [World.cell?, hq, nc]
          have hfz : wr.frozen? ⟨wx.heap.size, 1, none⟩ = false := by simp [World.frozen?, hq]
          have HN : Hid ((wr.setCell ⟨wx.heap.size, 1, none⟩ (.int .u8 (x / 256 % 256))).heap[wx.heap.size]? = some (.cells (nc x (1 + 1)) 203 (0, 0))) := by
            show _ = _
            rw [heap_setCell_self hq]; rfl
          have HB2 : Hid (Below wx.heap.size wx (wr.setCell ⟨wx.heap.size, 1, none⟩ (.int .u8 (x / 256 % 256)))) := HB1.out.setCell (by simp) _
          clear hq
          go_wp2
          go_roundw
          case rel => exact ⟨1 + 1, by go_num, by omega, HN.out, HB2.out⟩
          case measure => simp [intOf]
        · have HS : Hid (Bs wr (some ⟨wx.heap.size, 0, none⟩) 2 (by' 2 x)) := nc_bs hq (by omega) (heap_lt hq)
          have HW2 : Hid (WrP wr p B v s) := HW.out.below HB1.out
          have hB2 : B ≤ wr.heap.size := Nat.le_trans hB HB1.out.size
          clear hq
          go_wp2_with fail
          refine (wBytes_any p B 2 4 _ v (by' 2 x) s wr HW2.out hB2 HS.out (fun h => by simp at h) (by omega)).mono ?_
          rintro r w2 ⟨rfl, hD⟩
          have HDn : Hid (WrDone wx w2 p B v (wByt (by' 2 x) s)) := WrDone.trans (Fr.of_below HB1.out) (Lie.refl _ _) hD
          clear hD
          go_wp2
          go_end0
          exact ⟨rfl, HDn.out⟩
    · have d1 : decide (x < 0) = false := decide_eq_false (by omega)
      have d2 : decide ((16777216 : Int) ≤ x) = false := decide_eq_false (by have h9 : x < 16777216 := hw4; omega)
      have HX0 : Hid (0 ≤ x ∧ x < 16777216) := ⟨hw3, hw4⟩
      clear hw1 hw2 hw4 h
      go_enter Tryz.func91, Tryz.ntmps91
      go_wp2_with fail
      refine (isWidth_any 3 w).mono ?_
      rintro r wx ⟨rfl, rfl⟩
      rw [hd]
      go_wp2
      go_loopw [27] (fun s27 wr => ∃ i : Nat, s27 = .int .i64 i ∧ i ≤ 3 ∧ wr.heap[wx.heap.size]? = some (.cells (nc x i) 203 (0, 0)) ∧ Below wx.heap.size wx wr) (fun s27 _ => 3 - (intOf s27).toNat)
      case atStart => exact ⟨0, rfl, by omega, heap_alloc_new wx _, (Below.refl _ _).alloc (Nat.le_refl _) _⟩
      case round =>
        obtain ⟨i, rfl, hi, hq, hbl⟩ := hrel
        have HB1 : Hid (Below wx.heap.size wx wr) := hbl
        clear hbl
        obtain rfl | rfl | rfl | rfl : i = 0 ∨ i = 1 ∨ i = 2 ∨ i = 3 := by omega
        · have hcell : wr.cell? ⟨wx.heap.size, 0, none⟩ = some (.int .u8 0) := by simp [World.cell?, hq, nc]
          have hfz : wr.frozen? ⟨wx.heap.size, 0, none⟩ = false := by simp [World.frozen?, hq]
          have HN : Hid ((wr.setCell ⟨wx.heap.size, 0, none⟩ (.int .u8 (x % 256))).heap[wx.heap.size]? = some (.cells (nc x (0 + 1)) 203 (0, 0))) := by
            show _ = _
            rw [heap_setCell_self hq]; rfl
          have HB2 : Hid (Below wx.heap.size wx (wr.setCell ⟨wx.heap.size, 0, none⟩ (.int .u8 (x % 256)))) := HB1.out.setCell (by simp) _
          clear hq
          rw [show ((0 : Nat) : Int) = 0 from rfl]
          go_wp2
          go_roundw
          case rel => exact ⟨0 + 1, by go_num, by omega, HN.out, HB2.out⟩
          case measure => simp [intOf]
        · have hcell : wr.cell? ⟨wx.heap.size, 1, none⟩ = some (.int .u8 0) := by simp [World.cell?, hq, nc]
          have hfz : wr.frozen? ⟨wx.heap.size, 1, none⟩ = false := by simp [World.frozen?, hq]
          have HN : Hid ((wr.setCell ⟨wx.heap.size, 1, none⟩ (.int .u8 (x / 256 % 256))).heap[wx.heap.size]? = some (.cells (nc x (1 + 1)) 203 (0, 0))) := by
            show _ = _
            rw [heap_setCell_self hq]; rfl
          have HB2 : Hid (Below wx.heap.size wx (wr.setCell ⟨wx.heap.size, 1, none⟩ (.int .u8 (x / 256 % 256)))) := HB1.out.setCell (by simp) _
          clear hq
          go_wp2
          go_roundw
          case rel => exact ⟨1 + 1, by go_num, by omega, HN.out, HB2.out⟩
          case measure => simp [intOf]
        · have hcell : wr.cell? ⟨wx.heap.size, 2, none⟩ = some (.int .u8 0) := by simp [World.cell?, hq, nc]
          have hfz : wr.frozen? ⟨wx.heap.size, 2, none⟩ = false := by simp [World.frozen?, hq]
          have HN : Hid ((wr.setCell ⟨wx.heap.size, 2, none⟩ (.int .u8 (x / 65536 % 256))).heap[wx.heap.size]? = some (.cells (nc x (2 + 1)) 203 (0, 0))) := by
            show _ = _
            rw [heap_setCell_self hq]; rfl
          have HB2 : Hid (Below wx.heap.size wx (wr.setCell ⟨wx.heap.size, 2, none⟩ (.int .u8 (x / 65536 % 256)))) := HB1.out.setCell (by simp) _
          clear hq
          go_wp2
          go_roundw
          case rel => exact ⟨2 + 1, by go_num, by omega, HN.out, HB2.out⟩
          case measure => simp [intOf]
        · have HS : Hid (Bs wr (some ⟨wx.heap.size, 0, none⟩) 3 (by' 3 x)) := nc_bs hq (by omega) (heap_lt hq)
          have HW2 : Hid (WrP wr p B v s) := HW.out.below HB1.out
          have hB2 : B ≤ wr.heap.size := Nat.le_trans hB HB1.out.size
          clear hq
          go_wp2_with fail
          refine (wBytes_any p B 3 4 _ v (by' 3 x) s wr HW2.out hB2 HS.out (fun h => by simp at h) (by omega)).mono ?_
          rintro r w2 ⟨rfl, hD⟩
          have HDn : Hid (WrDone wx w2 p B v (wByt (by' 3 x) s)) := WrDone.trans (Fr.of_below HB1.out) (Lie.refl _ _) hD
          clear hD
          go_wp2
          go_end0
          exact ⟨rfl, HDn.out⟩
    · have d1 : decide (x < 0) = false := decide_eq_false (by omega)
      have d2 : decide ((4294967296 : Int) ≤ x) = false := decide_eq_false (by have h9 : x < 4294967296 := hw4; omega)
      have HX0 : Hid (0 ≤ x ∧ x < 4294967296) := ⟨hw3, hw4⟩
      clear hw1 hw2 hw4 h
      go_enter Tryz.func91, Tryz.ntmps91
      go_wp2_with fail
      refine (isWidth_any 4 w).mono ?_
      rintro r wx ⟨rfl, rfl⟩
      rw [hd]
      go_wp2
      go_loopw [27] (fun s27 wr => ∃ i : Nat, s27 = .int .i64 i ∧ i ≤ 4 ∧ wr.heap[wx.heap.size]? = some (.cells (nc x i) 203 (0, 0)) ∧ Below wx.heap.size wx wr) (fun s27 _ => 4 - (intOf s27).toNat)
      case atStart => exact ⟨0, rfl, by omega, heap_alloc_new wx _, (Below.refl _ _).alloc (Nat.le_refl _) _⟩
      case round =>
        obtain ⟨i, rfl, hi, hq, hbl⟩ := hrel
        have HB1 : Hid (Below wx.heap.size wx wr) := hbl
        clear hbl
        obtain rfl | rfl | rfl | rfl | rfl : i = 0 ∨ i = 1 ∨ i = 2 ∨ i = 3 ∨ i = 4 := by omega
        · have hcell : wr.cell? ⟨wx.heap.size, 0, none⟩ = some (.int .u8 0) := by simp [World.cell?, hq, nc]
          have hfz : wr.frozen? ⟨wx.heap.size, 0, none⟩ = false := by simp [World.frozen?, hq]
          have HN : Hid ((wr.setCell ⟨wx.heap.size, 0, none⟩ (.int .u8 (x % 256))).heap[wx.heap.size]? = some (.cells (nc x (0 + 1)) 203 (0, 0))) := by
            show _ = _
            rw [heap_setCell_self hq]; rfl
          have HB2 : Hid (Below wx.heap.size wx (wr.setCell ⟨wx.heap.size, 0, none⟩ (.int .u8 (x % 256)))) := HB1.out.setCell (by simp) _
          clear hq
          rw [show ((0 : Nat) : Int) = 0 from rfl]
          go_wp2
          go_roundw
          case rel => exact ⟨0 + 1, by go_num, by omega, HN.out, HB2.out⟩
          case measure => simp [intOf]
        · have hcell : wr.cell? ⟨wx.heap.size, 1, none⟩ = some (.int .u8 0) := by simp [World.cell?, hq, nc]
          have hfz : wr.frozen? ⟨wx.heap.size, 1, none⟩ = false := by simp [World.frozen?, hq]
          have HN : Hid ((wr.setCell ⟨wx.heap.size, 1, none⟩ (.int .u8 (x / 256 % 256))).heap[wx.heap.size]? = some (.cells (nc x (1 + 1)) 203 (0, 0))) := by
            show _ = _
            rw [heap_setCell_self hq]; rfl
          have HB2 : Hid (Below wx.heap.size wx (wr.setCell ⟨wx.heap.size, 1, none⟩ (.int .u8 (x / 256 % 256)))) := HB1.out.setCell (by simp) _
          clear hq
          go_wp2
          go_roundw
          case rel => exact ⟨1 + 1, by go_num, by omega, HN.out, HB2.out⟩
          case measure => simp [intOf]
        · have hcell : wr.cell? ⟨wx.heap.size, 2, none⟩ = some (.int .u8 0) := by simp [World.cell?, hq, nc]
          have hfz : wr.frozen? ⟨wx.heap.size, 2, none⟩ = false := by simp [World.frozen?, hq]
          have HN : Hid ((wr.setCell ⟨wx.heap.size, 2, none⟩ (.int .u8 (x / 65536 % 256))).heap[wx.heap.size]? = some (.cells (nc x (2 + 1)) 203 (0, 0))) := by
            show _ = _
            rw [heap_setCell_self hq]; rfl
          have HB2 : Hid (Below wx.heap.size wx (wr.setCell ⟨wx.heap.size, 2, none⟩ (.int .u8 (x / 65536 % 256)))) := HB1.out.setCell (by simp) _
          clear hq
          go_wp2
          go_roundw
          case rel => exact ⟨2 + 1, by go_num, by omega, HN.out, HB2.out⟩
          case measure => simp [intOf]
        · have hcell : wr.cell? ⟨wx.heap.size, 3, none⟩ = some (.int .u8 0) := by simp [World.cell?, hq, nc]
          have hfz : wr.frozen? ⟨wx.heap.size, 3, none⟩ = false := by simp [World.frozen?, hq]
          have HN : Hid ((wr.setCell ⟨wx.heap.size, 3, none⟩ (.int .u8 (x / 16777216 % 256))).heap[wx.heap.size]? = some (.cells (nc x (3 + 1)) 203 (0, 0))) := by
            show _ = _
            rw [heap_setCell_self hq]; rfl
          have HB2 : Hid (Below wx.heap.size wx (wr.setCell ⟨wx.heap.size, 3, none⟩ (.int .u8 (x / 16777216 % 256)))) := HB1.out.setCell (by simp) _
          clear hq
          go_wp2
          go_roundw
          case rel => exact ⟨3 + 1, by go_num, by omega, HN.out, HB2.out⟩
          case measure => simp [intOf]
        · have HS : Hid (Bs wr (some ⟨wx.heap.size, 0, none⟩) 4 (by' 4 x)) := nc_bs hq (by omega) (heap_lt hq)
          have HW2 : Hid (WrP wr p B v s) := HW.out.below HB1.out
          have hB2 : B ≤ wr.heap.size := Nat.le_trans hB HB1.out.size
          clear hq
          go_wp2_with fail
          refine (wBytes_any p B 4 4 _ v (by' 4 x) s wr HW2.out hB2 HS.out (fun h => by simp at h) (by omega)).mono ?_
          rintro r w2 ⟨rfl, hD⟩
          have HDn : Hid (WrDone wx w2 p B v (wByt (by' 4 x) s)) := WrDone.trans (Fr.of_below HB1.out) (Lie.refl _ _) hD
          clear hD
          go_wp2
          go_end0
          exact ⟨rfl, HDn.out⟩

theorem not_fits (x n : Int) (h1 : 1 ≤ n) (h4 : n ≤ 4) (hw : ¬ (1 ≤ n ∧ n ≤ 4 ∧ 0 ≤ x ∧ x < 256 ^ n.toNat)) : x < 0 ∨ (0 ≤ x ∧ 256 ^ n.toNat ≤ x) := by
  by_cases h : x < 0
  · exact .inl h
  · by_cases h2 : x < 256 ^ n.toNat
    · exact absurd ⟨h1, h4, by omega, h2⟩ hw
    · exact .inr ⟨by omega, by omega⟩
set_option maxRecDepth 100000 in
theorem wNum_not (p B : Nat) (v : Value) (x n : Int) (s : St) (w : World) (h : WrP w p B v s) (hx : -9223372036854775808 ≤ x ∧ x ≤ 9223372036854775807) (hn : -9223372036854775808 ≤ n ∧ n ≤ 9223372036854775807) (hw : ¬ (1 ≤ n ∧ n ≤ 4 ∧ 0 ≤ x ∧ x < 256 ^ n.toNat)) :
    Calls Tryz.prog 91 #[.pointer (some ⟨p, 0, none⟩), .int .i64 x, .int .i64 n] w fun r w' => r = .returned (.tuple #[]) ∧ WrDone w w' p B v (fl 1 s) := by
  have HW : Hid (WrP w p B v s) := h
  obtain ⟨vo, vn, vc, rfl, hd, _⟩ := h
  have HD : Hid (Hd 156 w p vo vn vc s.2) := hd
  clear hd
  by_cases hn1 : 1 ≤ n ∧ n ≤ 4
  · have hd : decide (1 ≤ n ∧ n ≤ 4) = true := decide_eq_true hn1
    rcases not_fits x n hn1.1 hn1.2 hw with hneg | hbig
    · have d1 : decide (x < 0) = true := decide_eq_true hneg
      clear hw
      go_enter Tryz.func91, Tryz.ntmps91
      go_wp2_with fail
      refine (isWidth_any n w).mono ?_
      rintro r wx ⟨rfl, rfl⟩
      rw [hd]
      go_wp2_with fail
      refine (fail_any 156 p vn vc vo s.2 1 wx HD.out).mono ?_
      rintro r w1 ⟨rfl, hF⟩
      have HX : Hid (WrDone wx w1 p B (.slice vo vn vc) (fl 1 s)) := wr_failed HW.out hF
      clear hF
      go_wp2
      ((try simp only [Exit.inBlock, Exit.then]); refine bodyPost_ret (results_none rfl _ _ _) rfl ?_)
      exact ⟨rfl, HX.out⟩
    · have d1 : decide (x < 0) = false := decide_eq_false (by omega)
      clear hw
      obtain rfl | rfl | rfl | rfl : n = 1 ∨ n = 2 ∨ n = 3 ∨ n = 4 := by omega
      · have d2 : decide ((256 : Int) ≤ x) = true := decide_eq_true hbig.2
        go_enter Tryz.func91, Tryz.ntmps91
        go_wp2_with fail
        refine (isWidth_any 1 w).mono ?_
        rintro r wx ⟨rfl, rfl⟩
        rw [hd]
        go_wp2_with fail
        refine (fail_any 156 p vn vc vo s.2 1 wx HD.out).mono ?_
        rintro r w1 ⟨rfl, hF⟩
        have HX : Hid (WrDone wx w1 p B (.slice vo vn vc) (fl 1 s)) := wr_failed HW.out hF
        clear hF
        go_wp2
        ((try simp only [Exit.inBlock, Exit.then]); refine bodyPost_ret (results_none rfl _ _ _) rfl ?_)
        exact ⟨rfl, HX.out⟩
      · have d2 : decide ((65536 : Int) ≤ x) = true := decide_eq_true hbig.2
        go_enter Tryz.func91, Tryz.ntmps91
        go_wp2_with fail
        refine (isWidth_any 2 w).mono ?_
        rintro r wx ⟨rfl, rfl⟩
        rw [hd]
        go_wp2_with fail
        refine (fail_any 156 p vn vc vo s.2 1 wx HD.out).mono ?_
        rintro r w1 ⟨rfl, hF⟩
        have HX : Hid (WrDone wx w1 p B (.slice vo vn vc) (fl 1 s)) := wr_failed HW.out hF
        clear hF
        go_wp2
        ((try simp only [Exit.inBlock, Exit.then]); refine bodyPost_ret (results_none rfl _ _ _) rfl ?_)
        exact ⟨rfl, HX.out⟩
      · have d2 : decide ((16777216 : Int) ≤ x) = true := decide_eq_true hbig.2
        go_enter Tryz.func91, Tryz.ntmps91
        go_wp2_with fail
        refine (isWidth_any 3 w).mono ?_
        rintro r wx ⟨rfl, rfl⟩
        rw [hd]
        go_wp2_with fail
        refine (fail_any 156 p vn vc vo s.2 1 wx HD.out).mono ?_
        rintro r w1 ⟨rfl, hF⟩
        have HX : Hid (WrDone wx w1 p B (.slice vo vn vc) (fl 1 s)) := wr_failed HW.out hF
        clear hF
        go_wp2
        ((try simp only [Exit.inBlock, Exit.then]); refine bodyPost_ret (results_none rfl _ _ _) rfl ?_)
        exact ⟨rfl, HX.out⟩
      · have d2 : decide ((4294967296 : Int) ≤ x) = true := decide_eq_true hbig.2
        go_enter Tryz.func91, Tryz.ntmps91
        go_wp2_with fail
        refine (isWidth_any 4 w).mono ?_
        rintro r wx ⟨rfl, rfl⟩
        rw [hd]
        go_wp2_with fail
        refine (fail_any 156 p vn vc vo s.2 1 wx HD.out).mono ?_
        rintro r w1 ⟨rfl, hF⟩
        have HX : Hid (WrDone wx w1 p B (.slice vo vn vc) (fl 1 s)) := wr_failed HW.out hF
        clear hF
        go_wp2
        ((try simp only [Exit.inBlock, Exit.then]); refine bodyPost_ret (results_none rfl _ _ _) rfl ?_)
        exact ⟨rfl, HX.out⟩
  · have hd : decide (1 ≤ n ∧ n ≤ 4) = false := decide_eq_false hn1
    clear hw
    go_enter Tryz.func91, Tryz.ntmps91
    go_wp2_with fail
    refine (isWidth_any n w).mono ?_
    rintro r wx ⟨rfl, rfl⟩
    rw [hd]
    go_wp2_with fail
    refine (fail_any 156 p vn vc vo s.2 1 wx HD.out).mono ?_
    rintro r w1 ⟨rfl, hF⟩
    have HX : Hid (WrDone wx w1 p B (.slice vo vn vc) (fl 1 s)) := wr_failed HW.out hF
    clear hF
    go_wp2
    ((try simp only [Exit.inBlock, Exit.then]); refine bodyPost_ret (results_none rfl _ _ _) rfl ?_)
    exact ⟨rfl, HX.out⟩
theorem wNum_any (p B : Nat) (v : Value) (x n : Int) (s : St) (w : World) (h : WrP w p B v s) (hB : B ≤ w.heap.size) (hbd : s.1.length ≤ 10000000) (hx : -9223372036854775808 ≤ x ∧ x ≤ 9223372036854775807) (hn : -9223372036854775808 ≤ n ∧ n ≤ 9223372036854775807) :
    Calls Tryz.prog 91 #[.pointer (some ⟨p, 0, none⟩), .int .i64 x, .int .i64 n] w fun r w' => r = .returned (.tuple #[]) ∧ WrDone w w' p B v (wNum x n s) := by
  unfold wNum
  split
  · next hw => exact wNum_fits p B v x n s w h hB hbd hx hw
  · next hw => exact wNum_not p B v x n s w h hx hn hw

theorem sb_length (s : ByteArray) : (sb s).length = s.size := by unfold sb; simp
theorem sb_bytes (s : ByteArray) : Bytes (sb s) := fun x hx => by
  unfold sb at hx
  obtain ⟨b, _, rfl⟩ := List.mem_map.1 hx
  have := b.toNat_lt
  omega
/-- The bytes of a string, laid down: where they lie, and what else has turned. -/
theorem conv_any (w : World) (s : ByteArray) : ∃ c o, (convert 9 25 (.string s)).run Tryz.prog w = .ok (.slice (some ⟨w.heap.size, 0, none⟩) s.size c) (w.drew.alloc o) ∧ Bs (w.drew.alloc o) (some ⟨w.heap.size, 0, none⟩) s.size (sb s) := by
  refine ⟨_, _, run_bytes_of_string w 9 25 5 s Tryz.underlying9 Tryz.underlying25 Tryz.underlying5, sb_length s, (sb_bytes s).g, .inr ⟨w.heap.size, 0, rfl, by simp, fun i hi => ?_⟩⟩
  rw [sb_length] at hi
  have h1 : (w.drew.alloc (.cells (bytesRow s (grownCap w s.size 0 5)) 5 ((bytesRow s (grownCap w s.size 0 5)).size, (bytesRow s (grownCap w s.size 0 5)).size + 1))).heap[w.heap.size]? = some (.cells (bytesRow s (grownCap w s.size 0 5)) 5 ((bytesRow s (grownCap w s.size 0 5)).size, (bytesRow s (grownCap w s.size 0 5)).size + 1)) := heap_alloc_new w.drew _
  rw [Nat.zero_add, cell_of_row _ _ _ _ _ _ h1, Lz.g_lt _ _ (by rw [sb_length]; exact hi)]
  have h2 : i < s.data.size := hi
  simp [bytesRow, Array.getElem?_append, sb]
  rw [if_pos hi, Array.getElem?_eq_getElem h2]
  rfl

theorem fl_length (k : Int) (s : St) : (fl k s).1.length ≤ s.1.length := by unfold fl; split <;> simp
theorem wByt_length (b : List Int) (s : St) : (wByt b s).1.length ≤ s.1.length + b.length := by unfold wByt; split <;> simp
theorem wNum_length (x n : Int) (s : St) : (wNum x n s).1.length ≤ s.1.length + 4 := by
  unfold wNum
  split
  · next h => have := wByt_length (by' n.toNat x) s; rw [by_length] at this; omega
  · have := fl_length 1 s; omega

set_option maxRecDepth 100000 in
theorem wText_any (p B : Nat) (v : Value) (b : ByteArray) (s : St) (w : World) (h : WrP w p B v s) (hB : B ≤ w.heap.size) (hbd : s.1.length ≤ 1000000) (hb : b.size ≤ 1000000) :
    Calls Tryz.prog 176 #[.pointer (some ⟨p, 0, none⟩), .string b] w fun r w' => r = .returned (.tuple #[]) ∧ WrDone w w' p B v (wTxt (sb b) s) := by
  have HW : Hid (WrP w p B v s) := h
  have hl := sb_length b
  by_cases hlong : 255 < b.size
  · have e1 : wTxt (sb b) s = fl 3 s := by unfold wTxt; rw [if_pos (by omega)]
    rw [e1]
    obtain ⟨vo, vn, vc, rfl, hd, _⟩ := h
    have HD : Hid (Hd 156 w p vo vn vc s.2) := hd
    clear hd e1
    go_enter Tryz.func176, Tryz.ntmps176
    go_wp2_with fail
    refine (fail_any 156 p vn vc vo s.2 3 w HD.out).mono ?_
    rintro r w1 ⟨rfl, hF⟩
    have HX : Hid (WrDone w w1 p B (.slice vo vn vc) (fl 3 s)) := wr_failed HW.out hF
    clear hF
    go_wp2
    ((try simp only [Exit.inBlock, Exit.then]); refine bodyPost_ret (results_none rfl _ _ _) rfl ?_)
    exact ⟨rfl, HX.out⟩
  · have e1 : wTxt (sb b) s = wByt (sb b) (wNum b.size 1 s) := by unfold wTxt; rw [if_neg (by omega), hl]
    rw [e1]
    clear e1 h
    go_enter Tryz.func176, Tryz.ntmps176
    go_wp2_with fail
    refine (wNum_any p B v b.size 1 s w HW.out hB (by omega) (by omega) (by omega)).mono ?_
    rintro r w1 ⟨rfl, v1, hW1, hF1, hL1⟩
    obtain ⟨c, o, hcv, hbs⟩ := conv_any w1 b
    have HB1 : Hid (Bs (w1.drew.alloc o) (some ⟨w1.heap.size, 0, none⟩) b.size (sb b)) := hbs
    have HW1 : Hid (WrP w1 p B v1 (wNum b.size 1 s)) := hW1
    have HF1 : Hid (Fr (Two p v) w w1) := hF1
    have HL1 : Hid (Lie w v v1) := hL1
    clear hbs hW1 hF1 hL1
    go_wp2_with fail
    refine (wBytes_any p B b.size c _ v1 (sb b) (wNum b.size 1 s) (w1.alloc o).drew (HW1.out.below ?_) ?_ HB1.out (fun h => by simp at h) ?_).mono ?_
    · exact ((Below.refl _ _).alloc (Nat.le_refl _) o).drew
    · have := HF1.out.size; simp; omega
    · have := wNum_length b.size 1 s; omega
    rintro r w2 ⟨rfl, hD⟩
    have HDn : Hid (WrDone w w2 p B v (wByt (sb b) (wNum b.size 1 s))) :=
      WrDone.trans HF1.out HL1.out (WrDone.trans (Fr.of_below ((Below.refl _ _).alloc (Nat.le_refl _) o).drew) (Lie.refl _ _) hD)
    clear hD
    go_wp2
    go_end0
    exact ⟨rfl, HDn.out⟩
end Go.Proofs.YtchcejjoncihkaaGreatDoor

/- Readers behind an error: nothing turns any more; numbers that fit; what is left of a reader. -/
namespace Go.Proofs.YtchcejjoncihkaaGreatDoor
set_option linter.unusedVariables false
open Go.RowKit Go.Maps
open Lz (g)
open Cur

end Go.Proofs.YtchcejjoncihkaaGreatDoor

/- Writers that are new, frames of theirs; bytes in a row that is new and may be written: Clone and Done, once more. -/
namespace Go.Proofs.YtchcejjoncihkaaGreatDoor
set_option linter.unusedVariables false
open Go.RowKit Go.Maps
open Lz (g)
open Cur

namespace Cur
theorem le_by : ∀ (n : Nat) (x : Int), 0 ≤ x → x < 256 ^ n → le (by' n x) = x
  | 0, x, h0, h => by simp at h; simp [by', le]; omega
  | n + 1, x, h0, h => by
    have h2 : x / 256 < 256 ^ n := by
      rw [Int.pow_succ] at h
      exact Int.ediv_lt_of_lt_mul (by omega) h
    simp only [by', le]
    rw [le_by n (x / 256) (by omega) h2]; omega
end Cur
/-- A writer that is new. -/
theorem WrP.new (w : World) (B : Nat) : WrP (w.alloc (.cells #[.slice none 0 0, .int .i64 0] 156)) w.heap.size B (.slice none 0 0) ([], 0) :=
  ⟨none, 0, 0, rfl, Hd.new _ _ _ _ _ _, World.ownsRow_nil _ _ _ _, Bytes.nil, .inl rfl⟩
theorem Fr.two_below {w w' : World} {p B : Nat} {v : Value} (h : Fr (Two p v) w w') (hB : B ≤ w.heap.size) (hp : B ≤ p) (hv : ∀ k, v.ownBlock = some k → B ≤ k) : Below B w w' :=
  h.below B hB (fun k hk => by rcases hk with hk | hk; (have : k = p := hk; omega); exact hv k hk)
theorem Fr.one_below {w w' : World} {p B : Nat} (h : Fr (One p) w w') (hB : B ≤ w.heap.size) (hp : B ≤ p) : Below B w w' :=
  h.below B hB (fun k hk => by have : k = p := hk; omega)
theorem WrP.base {w : World} {p B : Nat} {v : Value} {s : St} (h : WrP w p B v s) : ∀ k, v.ownBlock = some k → B ≤ k := by
  obtain ⟨ao, n, c, rfl, _, h3, _⟩ := h
  intro k hk
  exact (h3.lt k hk).1
theorem WrP.lt {w : World} {p B : Nat} {v : Value} {s : St} (h : WrP w p B v s) : p < w.heap.size := by
  obtain ⟨ao, n, c, rfl, h2, _⟩ := h; exact h2.lt

set_option maxRecDepth 100000 in
theorem DoneNew_any (p B : Nat) (v : Value) (s : St) (w : World) (h : WrP w p B v s) (hbd : s.1.length ≤ 100000000) :
    Calls Tryz.prog 93 #[.pointer (some ⟨p, 0, none⟩)] w fun r w' => ∃ ao c, r = .returned (.slice ao s.1.length c) ∧ New w w' ao s.1.length c s.1 := by
  obtain ⟨vo, vn, vc, rfl, hd, ho, hby, hcan⟩ := h
  have hlen : s.1.length = vn := by have := ho.1; rw [bv_length] at this; omega
  have h0 := hd.c0
  have HB : Hid (Bs w vo vn s.1) := bs_of_owns ho hby
  have HN : Hid (vo = none → vc = 0) := nil_cap ho
  have hc := cap_of_owns ho
  clear hd ho
  rw [hlen]
  go_enter Tryz.func93, Tryz.ntmps93
  go_wp2_with fail
  refine (CloneNew_any vn vc vo s.1 w HB.out hc HN.out (by omega)).mono ?_
  rintro r w2 ⟨ao', c', rfl, hN⟩
  have HX : Hid (New w w2 ao' vn c' s.1) := hN
  clear hN
  go_wp2
  go_ret
  exact ⟨_, _, rfl, HX.out⟩
theorem setRow_fr {S : Nat → Prop} {a b : World} (h : Fr S a b) (q : Nat) (cs : Array Value) (hp : q < a.heap.size → S q) : Fr S a (b.setRow q cs) :=
  ⟨h.os, h.tape, h.output, by simpa [World.setRow] using h.size, fun i hi hn => (setRow_other b q i cs (fun e => by subst e; exact hn (hp hi))).trans (h.block i hi hn)⟩
theorem wNum_ok (zs : List Int) (m : Int) (n : Nat) (x : Int) (hm : m = (n : Int)) (h1 : 1 ≤ n) (h4 : n ≤ 4) (h0 : 0 ≤ x) (h : x < 256 ^ n) : wNum x m (zs, 0) = (zs ++ by' n x, 0) := by
  subst hm
  unfold wNum
  rw [if_pos ⟨by omega, by omega, h0, by rw [Int.toNat_natCast]; exact h⟩, Int.toNat_natCast]
  rfl
theorem wTxt_ok (zs : List Int) (t : ByteArray) (h : t.size ≤ 255) : wTxt (sb t) (zs, 0) = (zs ++ ((t.size : Int) :: sb t), 0) := by
  unfold wTxt
  rw [if_neg (by rw [sb_length]; omega), sb_length, wNum_ok zs 1 1 t.size rfl (by omega) (by omega) (by omega) (by omega)]
  have e : by' 1 (t.size : Int) = [(t.size : Int)] := by simp [by']; omega
  rw [e]
  show (zs ++ [(t.size : Int)] ++ sb t, (0 : Int)) = _
  simp
end Go.Proofs.YtchcejjoncihkaaGreatDoor

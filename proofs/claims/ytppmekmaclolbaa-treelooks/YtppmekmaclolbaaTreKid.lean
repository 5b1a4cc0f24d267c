/- Layer 7: tree.Kids, walked. -/
import Derived.Test.YtppmekmaclolbaaTreKid0
import Derived.Test.YtppmekmaclolbaaTreOwn
namespace Go.Proofs.Ytppmekmaclolbaa
set_option linter.unusedVariables false
open Go.RowKit Go.Maps
open Nam Tre Stb

set_option maxRecDepth 100000 in
set_option maxHeartbeats 1000000 in
theorem kids1_any (a : Option Addr) (n c : Nat) (L : List (Nv × Nod)) (b : Option Addr) (m d : Nat) (k : List ByteArray) (p2 p3 : Nat) (x y : Nat) (w : World) (hl : Ns w a n L) (hk : Rs w b m k) (hx : x < n) (hy : y < n) (hkx : kid L k x = true) (hky : kid L k y = true) (hn : n ≤ 1000) (hm : m ≤ 1000000)
    (h2 : w.cell? ⟨p2, 0, none⟩ = some (.slice a n c)) (h3 : w.cell? ⟨p3, 0, none⟩ = some (.slice b m d)) :
    Calls Try.prog 45 (#[.int .i64 (x : Int), .int .i64 (y : Int)] ++ #[.pointer (some ⟨p2, 0, none⟩), .pointer (some ⟨p3, 0, none⟩)]) w fun e w' => e = .returned (.int .i64 (kcm L k.length x y)) ∧ ∃ q, w' = w.drewN q := by
  have hLn := hl.1
  have hkl : k.length = m := hk.1
  obtain ⟨ba, oa, rfl, hba, hca⟩ := hl.at (by omega)
  have e1 := (hca x hx).c0
  have e2 := (hca y hy).c0
  have r1 := hl.2.1 _ (gl_mem L x (by omega))
  have r2 := hl.2.1 _ (gl_mem L y (by omega))
  have n1 := r1.names.1
  have n2 := r2.names.1
  simp only [kid, Bool.and_eq_true, decide_eq_true_eq] at hkx hky
  obtain ⟨b1, o1, f1, g1, s1⟩ : ∃ b off, (gl L x).1.na = some ⟨b, off, none⟩ ∧ b < w.heap.size ∧ ∀ i, i < (gl L x).2.names.length → w.cell? ⟨b, off + i, none⟩ = some (.string (gs (gl L x).2.names i)) := by
    rcases r1.names.2 with h | h
    · omega
    · exact h
  obtain ⟨b2, o2, f2, g2, s2⟩ : ∃ b off, (gl L y).1.na = some ⟨b, off, none⟩ ∧ b < w.heap.size ∧ ∀ i, i < (gl L y).2.names.length → w.cell? ⟨b, off + i, none⟩ = some (.string (gs (gl L y).2.names i)) := by
    rcases r2.names.2 with h | h
    · omega
    · exact h
  have t1 := s1 m (by omega)
  have t2 := s2 m (by omega)
  rw [f1] at e1
  rw [f2] at e2
  have i1 : (x : Int) < n := by omega
  have i2 : (y : Int) < n := by omega
  have l1 : (m : Int) < ((gl L x).1.nn : Nat) := by omega
  have l2 : (m : Int) < ((gl L y).1.nn : Nat) := by omega
  have HE : Hid (kcm L k.length x y = Lib.compareBytes (gs (gl L x).2.names m).toList (gs (gl L y).2.names m).toList) := by
    show _ = _
    unfold kcm ky
    rw [hkl]
  generalize gs (gl L x).2.names m = u1 at *
  generalize gs (gl L y).2.names m = u2 at *
  generalize (gl L x).1.nn = q1 at *
  generalize (gl L y).1.nn = q2 at *
  generalize (gl L x).1.nc = q3 at *
  generalize (gl L y).1.nc = q4 at *
  clear hl hk hca r1 r2 s1 s2 hkx hky n1 n2 f1 f2 hkl hLn
  show Calls Try.prog 45 #[.int .i64 (x : Int), .int .i64 (y : Int), .pointer (some ⟨p2, 0, none⟩), .pointer (some ⟨p3, 0, none⟩)] w _
  go_enter Try.func45, Try.ntmps45
  go_wp2_with fail
  go_quiet ((go_at_call 46; refine Calls.quiet_of_same (strCompare_any _ _ _)))
  go_wp2
  go_ret
  exact ⟨ret_int HE.out.symm, _, rfl⟩
theorem kid_below {L : List (Nv × Nod)} {k : List ByteArray} {i : Nat} (h : (gl L i).2.names.length = k.length + 1) : below (nm (gl L i).2.names) (nm k) = kid L k i := by
  unfold below kid
  rw [nm_length, nm_length, ← nm_take, decide_eq_true h, decide_eq_true (show k.length < (gl L i).2.names.length by omega), nm_dec]
theorem kid_short {L : List (Nv × Nod)} {k : List ByteArray} {i : Nat} (h : (gl L i).2.names.length ≠ k.length + 1) : kid L k i = false := by
  unfold kid
  rw [decide_eq_false h]; rfl
theorem bdn {B : Nat} {a w : World} (h : Below B a w) (q : Nat) : Below B a (w.drewN q) := ⟨h.os, h.tape, h.output, h.size, h.block⟩
theorem owns_drewN {w : World} {B e size n : Nat} {v : Value} {xs : List Value} (h : w.ownsRow B e size v n xs) (q : Nat) : (w.drewN q).ownsRow B e size v n xs := h
theorem rise_fn0 {K : List Nat} (h : K.Pairwise (· < ·)) {i j : Nat} (hij : i < j) (hj : j < K.length) : fn0 K i < fn0 K j := by
  rw [fn0_lt K i (by omega), fn0_lt K j hj]
  exact List.pairwise_iff_getElem.1 h i j (by omega) hj hij
theorem ivs_map (n : Nat) (D : Nat → Nat) : ivs n D = ((List.range n).map D).map (fun z : Nat => Value.int .i64 (z : Int)) := by
  unfold ivs; rw [List.map_map]; rfl
set_option maxRecDepth 100000 in
set_option maxHeartbeats 2000000 in
theorem Kids_new (a : Option Addr) (n c : Nat) (L : List (Nv × Nod)) (b : Option Addr) (m d : Nat) (k : List ByteArray) (w : World) (hl : Ns w a n L) (hc : n ≤ c) (hcm : c ≤ 9223372036854775807) (hk : Rs w b m k) (hmd : m ≤ 9223372036854775807) (h20 : ∀ p ∈ L, p.2.names.length ≤ 1000000) (hn : n ≤ 60) :
    Calls Try.prog 16 #[.slice a n c, .slice b m d] w fun e w' => ∃ ao kn kc K, e = .returned (.slice ao kn kc) ∧ Ki w' ao kn K ∧ kn ≤ 60 ∧ kn ≤ kc ∧ kc ≤ 9223372036854775807 ∧ IsKids L k K ∧ Below w.heap.size w w' ∧ (0 < kn → ∀ p, ao = some p → w.heap.size ≤ p.block) := by
  have HL := hide hl
  have HLN := hide hl.1
  have HK := hide hk
  have H20 := hide h20
  obtain ⟨W2, hW2⟩ : ∃ W2, W2 = (w.alloc (.cells #[.slice a n c] 22)).alloc (.cells #[.slice b m d] 31) := ⟨_, rfl⟩
  have hbW : Below w.heap.size w W2 := by rw [hW2]; exact ((Below.refl _ _).alloc (Nat.le_refl _) _).alloc (by simp) _
  have hsz : W2.heap.size = w.heap.size + 2 := by rw [hW2]; simp
  have hp2 : W2.cell? ⟨w.heap.size, 0, none⟩ = some (.slice a n c) := by rw [hW2]; simp
  have hp3 : W2.cell? ⟨w.heap.size + 1, 0, none⟩ = some (.slice b m d) := by rw [hW2]; simp
  have HBW := hide hbW
  have HSZ := hide hsz
  have HW2 := hide hW2
  have HP2 : Hid (∀ W, Below W2.heap.size W2 W → W.cell? ⟨w.heap.size, 0, none⟩ = some (.slice a n c)) := fun W h => (h.cell (by rw [hsz]; simp)).trans hp2
  have HP3 : Hid (∀ W, Below W2.heap.size W2 W → W.cell? ⟨w.heap.size + 1, 0, none⟩ = some (.slice b m d)) := fun W h => (h.cell (by rw [hsz]; simp)).trans hp3
  have HLW : Hid (∀ W, Below W2.heap.size W2 W → Below w.heap.size w W) := fun W h => hbW.trans (h.mono (by omega))
  clear hl hk h20 hbW hsz hp2 hp3
  go_enter Try.func16, Try.ntmps16
  go_wp2
  rw [← hW2]
  clear hW2
  go_loopw [5, 6, 7, 10] (fun r5 _ _ r10 wr => ∃ (i kn kc : Nat) (ko : Option Addr), r5 = .slice ko kn kc ∧ r10 = .int .i64 i ∧ i ≤ n ∧ kn = (kf L k i).length ∧ wr.ownsRow W2.heap.size 3 1 (.slice ko kn kc) kn ((kf L k i).map (fun z : Nat => Value.int .i64 (z : Int))) ∧ Below W2.heap.size W2 wr) (fun _ _ _ r10 _ => n - (intOf r10).toNat)
  case atStart => exact ⟨0, 0, 0, none, rfl, rfl, Nat.zero_le _, rfl, ⟨rfl, .inl ⟨rfl, rfl⟩⟩, Below.refl _ _⟩
  case round =>
    obtain ⟨i, kn, kc, ko, rfl, rfl, hi0, hkn, hown, hbel⟩ := hrel
    have HB := hide hbel
    have HO := hide hown
    have hkn2 := kf_length L k i
    rw [← hkn] at hkn2
    have HKN := hide hkn
    have hs2 := hbel.size
    by_cases hi : i < n
    · have hd : decide ((i : Int) < n) = true := by simpa using hi
      have hil : i < L.length := by rw [HLN.out]; exact hi
      obtain ⟨ba, oa, hao, hba, hca⟩ := (HL.out.below (HLW.out _ hbel)).at (by omega)
      subst hao
      obtain ⟨c0, c1, c2, c3, c4, c5, c6, c7, c8, c9⟩ := hca i hi
      have hrep := (HL.out.below (HLW.out _ hbel)).2.1 _ (gl_mem L i hil)
      have cb : ∀ o, (wr.alloc o).cell? ⟨w.heap.size + 1, 0, none⟩ = some (.slice b m d) := fun o => HP3.out _ (hbel.alloc hs2 _)
      have i1 : (i : Int) < n := by omega
      have hnl := hrep.names.1
      have hnm := H20.out _ (gl_mem L i hil)
      have HKS := hide (kf_succ L k i)
      have hkm : k.length = m := HK.out.1
      have e1 := hide (fun o : Obj => (HB.out.alloc hs2 o))
      by_cases hlen : (gl L i).1.nn = m + 1
      · obtain ⟨m1, hm1⟩ : ∃ m1, m1 = m + 1 := ⟨_, rfl⟩
        have vm : IntKind.i64.wrap ((m : Int) + 1) = (m1 : Int) := by rw [IntWalk.i64_in _ (by omega)]; omega
        have HKB := hide (kid_below (L := L) (k := k) (i := i) (by omega))
        have HCA := hide (fun o => Below_any (gl L i).1.na b (gl L i).1.nn (gl L i).1.nc m d (gl L i).2.names k (wr.alloc o) ((HL.out.below (HLW.out _ (e1.out o))).2.1 _ (gl_mem L i hil)).names (HK.out.below (HLW.out _ (e1.out o))) (by omega) (by omega) hrep.nc hrep.ncm)
        rw [hlen, ← hm1] at c0 HCA
        generalize (gl L i).1 = v at *
        generalize below (nm (gl L i).2.names) (nm k) = z at *
        clear hca hrep hnl hnm hown hbel hkm hlen hm1 hkn
        cases z
        · have HKF : Hid (kf L k (i + 1) = kf L k i) := by
            show _ = _
            rw [HKS.out, ← HKB.out]; rfl
          go_wp2_with (go_at_call 43; refine (HCA.out _).mono ?_; rintro e0 w1 ⟨rfl, q, rfl⟩)
          refine ⟨⟨i + 1, kn, kc, ko, rfl, by go_num, by omega, by rw [HKF.out]; exact HKN.out, by rw [HKF.out]; exact HO.out.alloc _, ?_⟩, by simp [intOf]; omega⟩
          exact bdn (e1.out _) q
        · have HKF : Hid (kf L k (i + 1) = kf L k i ++ [i]) := by
            show _ = _
            rw [HKS.out, ← HKB.out]; rfl
          go_wp2_with (first | (go_at_call 43; refine (HCA.out _).mono ?_; rintro e0 w1 ⟨rfl, q, rfl⟩) | (at_builtin; refine wpList_append_int _ rfl _ _ rfl W2.heap.size _ _ _ (kf L k i) rfl ?_ _ i rfl ?_ (by omega) ?_ ?_))
          · exact (owns_drewN (HO.out.alloc _) q).alloc _
          · rw [World.cell?_alloc_at _ _ _ _ (by simp)]; rfl
          · simp; omega
          intro ao' c' w' hown2 hg2
          have HE2 := hide hown2
          have HE3 := hide (((bdn (e1.out _) q).alloc (by simp; omega) _).grown hg2 (by simp; omega) (fun x e => (HO.out.lt x e).1))
          clear hown2 hg2
          go_wp2
          refine ⟨⟨i + 1, kn + 1, c', ao', rfl, by go_num, by omega, by rw [HKF.out, List.length_append, ← HKN.out]; rfl, by rw [HKF.out, List.map_append]; exact HE2.out, HE3.out⟩, by simp [intOf]; omega⟩
      · have HKF : Hid (kf L k (i + 1) = kf L k i) := by
          show _ = _
          rw [HKS.out, kid_short (by omega)]; rfl
        obtain ⟨z, hz⟩ : ∃ z, IntKind.i64.wrap ((m : Int) + 1) = z := ⟨_, rfl⟩
        have hzz : (((gl L i).1.nn : Int) == z) = false := by
          have : ((gl L i).1.nn : Int) ≠ z := by
            rw [← hz]
            by_cases hm9 : m + 1 ≤ 9223372036854775807
            · rw [IntWalk.i64_in _ (by omega)]; omega
            · obtain rfl : m = 9223372036854775807 := by omega
              have : IntKind.i64.wrap (((9223372036854775807 : Nat) : Int) + 1) = -9223372036854775808 := by decide
              rw [this]; omega
          simpa using this
        have hzz2 : ¬ (((gl L i).1.nn : Int) = z) := by simpa using hzz
        generalize (gl L i).1 = v at *
        clear hca hrep hnl hnm hown hbel hkm hlen hkn
        go_wp2
        refine ⟨⟨i + 1, kn, kc, ko, rfl, by go_num, by omega, by rw [HKF.out]; exact HKN.out, by rw [HKF.out]; exact HO.out.alloc _, e1.out _⟩, by simp [intOf]; omega⟩
    · have hd : decide ((i : Int) < n) = false := by simpa using hi
      obtain rfl : i = n := by omega
      have hcap := cap_owns hown
      by_cases h0 : kn = 0
      · subst h0
        have HF : Hid (IsKids L k []) := by
          have := isKids_of (L := L) (k := k) (D := fun _ => 0) ⟨fun x y h1 h2 h3 => by rw [HLN.out, ← hkn] at h3; omega, fun x => by
            rw [HLN.out, ← hkn]
            exact ⟨fun ⟨y, h1, h2, _⟩ => by omega, fun ⟨y, h1, h2, _⟩ => by omega⟩⟩
          rw [HLN.out, ← hkn] at this
          exact this
        clear hown hbel hkn
        go_wp2_with (go_at_call 44; refine (SortStable_none _ _ _ _).mono ?_; rintro e0 w1 ⟨rfl, rfl⟩)
        go_ret
        exact ⟨_, _, _, [], rfl, ⟨rfl, .inl rfl⟩, by omega, by omega, hcap.2.1, HF.out, HLW.out _ HB.out, fun h => by omega⟩
      · obtain ⟨g, kc', hv, hg1, hg2⟩ := hown.form (by omega)
        obtain ⟨rfl, rfl⟩ : ko = some ⟨g, 0, none⟩ ∧ kc = kc' := by simpa using hv
        have hg3 := hown.lt g rfl
        have HIR : Hid (IR wr W2.heap.size g kn kc wr (fn0 (kf L k i))) := by
          refine ⟨?_, Below.refl _ _⟩
          have := ivs_fn0 (kf L k i)
          rw [← hkn] at this
          rw [this]; exact hown
        have HCM : Hid (Cmps 45 #[.pointer (some ⟨w.heap.size, 0, none⟩), .pointer (some ⟨w.heap.size + 1, 0, none⟩)] (kcm L k.length) (fun x => x < i ∧ kid L k x = true) wr g) := by
          intro w' hb x y hx hy
          have hb2 : Below w.heap.size w w' := (HLW.out _ hbel).trans (hb.mono (by have := HSZ.out; omega))
          have hs3 := HSZ.out
          refine kids1_any a i c L b m d k _ _ x y w' (HL.out.below hb2) (HK.out.below hb2) hx.1 hy.1 hx.2 hy.2 (by omega) ?_ ((hb.cell (by show w.heap.size < g; omega)).trans (HP2.out _ hbel)) ((hb.cell (by show w.heap.size + 1 < g; omega)).trans (HP3.out _ hbel))
          have h1 := hx.2
          simp only [kid, Bool.and_eq_true, decide_eq_true_eq] at h1
          have h2 := H20.out _ (gl_mem L x (by rw [HLN.out]; exact hx.1))
          have h3 := HK.out.1
          omega
        have HCA := hide (SortStable_any wr W2.heap.size g kn kc 45 _ (kcm L k.length) (kl L k.length) (fun x => x < i ∧ kid L k x = true) (fn0 (kf L k i)) wr (enters _ Try.func45 (by kernel_rfl) rfl) HCM.out (kl_odr L _) HIR.out (by omega) (fun x hx => by
            have hx' : x < (kf L k i).length := by rw [← hkn]; exact hx
            have : fn0 (kf L k i) x ∈ kf L k i := by rw [fn0_lt _ _ hx']; exact List.getElem_mem hx'
            exact kf_lt this) (fun x y h1 h2 => rise_fn0 (kf_rise L k i) h1 (by rw [← hkn]; exact h2)))
        clear hown hbel hv hkn
        go_wp2_with (go_at_call 44; refine HCA.out.mono ?_; rintro e0 w1 ⟨rfl, D, hir, hst⟩; have HE1 := hide hir; have HE2 := hide hst; clear hir hst HCA)
        go_ret
        refine ⟨_, _, _, (List.range kn).map D, rfl, Ki.of (by rw [← ivs_map]; exact HE1.out.row), by omega, by omega, hcap.2.1, ?_, ?_, fun _ p e => by cases e; have := HSZ.out; show w.heap.size ≤ g; omega⟩
        · have hf := HE2.out
          have e1 := HLN.out
          rw [HKN.out] at hf
          rw [← e1] at hf
          have := isKids_of hf
          rw [e1, ← HKN.out] at this
          exact this
        · exact (HLW.out _ HB.out).trans (HE1.out.bel.mono (by have := HSZ.out; omega))
theorem Kids_any (a : Option Addr) (n c : Nat) (L : List (Nv × Nod)) (b : Option Addr) (m d : Nat) (k : List ByteArray) (w : World) (hl : Ns w a n L) (hc : n ≤ c) (hcm : c ≤ 9223372036854775807) (hk : Rs w b m k) (hmd : m ≤ 9223372036854775807) (h20 : ∀ p ∈ L, p.2.names.length ≤ 1000000) (hn : n ≤ 60) :
    Calls Try.prog 16 #[.slice a n c, .slice b m d] w fun e w' => ∃ ao kn kc K, e = .returned (.slice ao kn kc) ∧ Ki w' ao kn K ∧ kn ≤ 60 ∧ kn ≤ kc ∧ kc ≤ 9223372036854775807 ∧ IsKids L k K ∧ Below w.heap.size w w' := by
  refine (Kids_new a n c L b m d k w hl hc hcm hk hmd h20 hn).mono ?_
  rintro e w' ⟨ao, kn, kc, K, h1, h2, h3, h4, h5, h6, h7, _⟩
  exact ⟨ao, kn, kc, K, h1, h2, h3, h4, h5, h6, h7⟩
end Go.Proofs.Ytppmekmaclolbaa

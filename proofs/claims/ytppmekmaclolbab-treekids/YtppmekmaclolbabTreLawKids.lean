/- Layer 7: the statement TreeKids, walked. -/
import Derived.Test.YtppmekmaclolbabTreShown
import Derived.Test.YtppmekmaclolbabTreFew
import Derived.Test.YtppmekmaclolbabTreOpen
import Derived.Test.YtppmekmaclolbabTreKidP
namespace Go.Proofs.Ytppmekmaclolbab
set_option linter.unusedVariables false
open Go.RowKit Go.Maps
open Nam Tre Stb

theorem fewL_short (L : List (Nv × Nod)) : ∀ p ∈ fewL L, p.2.names.length ≤ 20 := by
  intro p hp
  simp only [fewL, List.mem_map] at hp
  obtain ⟨q, hq, rfl⟩ := hp
  simp [Tre.cut]; omega
theorem made_zero (n : Nat) : (madeCells (Value.int .i64 0).cells (n * 1)).toList = ivs n (fun _ => 0) := by
  rw [Nat.mul_one]
  show (madeCells #[Value.int .i64 0] n).toList = _
  rw [toList_madeCells_one]
  apply List.ext_getElem
  · simp [ivs]
  · intro i h1 h2
    simp [ivs]
/-- The times in memory, and all that was there. -/
structure TR (w4 : World) (n : Nat) (w : World) (T : Nat → Nat) : Prop where
  row : w.ownsRow w4.heap.size 3 1 (.slice (some ⟨w4.heap.size, 0, none⟩) n n) n (ivs n T)
  bel : Below w4.heap.size w4 w
theorem TR.below {w4 w w' : World} {n : Nat} {T : Nat → Nat} (h : TR w4 n w T) (hb : Below w.heap.size w w') : TR w4 n w' T := ⟨owns_below h.row hb, h.bel.trans (hb.mono h.bel.size)⟩
theorem TR.drew {w4 w : World} {n : Nat} {T : Nat → Nat} (h : TR w4 n w T) (q : Nat) : TR w4 n (w.drewN q) T := ⟨h.row, bdn h.bel q⟩
theorem TR.set {w4 w : World} {n : Nat} {T : Nat → Nat} (h : TR w4 n w T) (i z : Nat) : TR w4 n (w.setCell ⟨w4.heap.size, i, none⟩ (.int .i64 (z : Int))) (fun k => if k = i then z else T k) :=
  ⟨by have := (h.row.stored i (.int .i64 (z : Int))).1; rw [ivs_set] at this; exact this, h.bel.setCell (Nat.le_refl _) _⟩
theorem TR.same {w4 w : World} {n : Nat} {T U : Nat → Nat} (h : TR w4 n w T) (e : ∀ k, k < n → U k = T k) : TR w4 n w U := by
  have : ivs n U = ivs n T := List.map_congr_left fun k hk => by rw [e k (by simpa using hk)]
  exact ⟨by rw [this]; exact h.row, h.bel⟩
theorem TR.cell {w4 w : World} {n : Nat} {T : Nat → Nat} (h : TR w4 n w T) {k : Nat} (hk : k < n) : w.cell? ⟨w4.heap.size, k, none⟩ = some (.int .i64 (T k : Int)) := by
  rw [h.row.cellAt k (by omega), ivs_get _ _ _ hk]
set_option maxRecDepth 100000 in
set_option maxHeartbeats 4000000 in
theorem kids_walk (a : Option Addr) (n c : Nat) (L : List (Nv × Nod)) (w : World) (hl : Ns w a n L) (hc : n ≤ c) (hcm : c ≤ 9223372036854775807) :
    Calls Try.prog 3 #[.slice a n c] w fun e w' => e = .returned (.bool true) ∧ Below w.heap.size w w' := by
  have HL := hide hl
  clear hl
  go_enter Try.func3, Try.ntmps3
  go_wp2_with (go_at_call 4; refine (shown_any _).mono ?_)
  rintro e w1 ⟨rfl, hb1⟩
  have E1 := hide hb1
  clear hb1
  go_wp2_with (go_at_call 6; refine (few_any a n c L _ (HL.out.below E1.out) hc hcm).mono ?_)
  rintro e w2 ⟨ao, k, c', rfl, hk, hown, hns, hb2⟩
  have hcap := cap_owns hown
  have E2 := hide (E1.out.trans (hb2.mono E1.out.size))
  have HN := hide hns
  obtain ⟨h1, h2, h3⟩ := hcap
  clear hown hns hb2 h3
  generalize fewL L = F at *
  obtain ⟨z, hz⟩ : ∃ z, check (nds F) = z := ⟨_, rfl⟩
  by_cases h0 : z = 0
  · subst h0
    have HZ := hide hz
    have HC1 := hide (Canon_ok ao k c' F w2 HN.out h1 h2 hz)
    clear hz
    go_wp2_with (go_at_call 5; refine HC1.out.mono ?_)
    rintro e w4 ⟨blk, L4, rfl, hown4, hgood4, hic4, hb4⟩
    have E4 := hide (E2.out.trans (hb4.mono E2.out.size))
    have hns4 := (sh_of_owns hown4).ns (fun p hp => (hgood4 p hp).rep)
    have HN4 := hide hns4
    have HLN := hide hns4.1
    have HF4 := hide (fun p (hp : p ∈ L4) => (hgood4 p hp).few)
    have HCP := hide (canP (canF HZ.out hic4))
    obtain ⟨i0, hi, hz0, hz1, hz2⟩ := info_parts infoInt
    clear hown4 hgood4 hic4 hb4 hns4 HC1
    go_wp2_with (at_make; refine wpList_make_full _ rfl _ _ 28 rfl w4.heap.size 3 i0 (.int .i64 0) 1 Try.underlying28 hi hz0 hz1 _ _ _ _ k (by rfl) (by rfl) (by omega) (by omega) (by rw [hz2]; omega) (by unfold maxLen; omega) (Nat.le_refl _) ?_; intro w5 o5 k5)
    have HT5 : Hid (TR w4 k w5 (tm L4 0)) := by
      refine ⟨by rw [made_zero] at o5; exact o5, (Below.refl w4.heap.size w4).grown k5 (Nat.le_refl _) (fun x e => by simp at e)⟩
    clear o5 k5 hi hz0 hz1 hz2
    go_wp2
    go_loopw [7, 8, 9] (fun r7 _ _ wr => ∃ i : Nat, r7 = .int .i64 i ∧ i ≤ k ∧ TR w4 k wr (tm L4 i)) (fun r7 _ _ _ => k - (intOf r7).toNat)
    case atStart => exact ⟨0, rfl, Nat.zero_le _, HT5.out⟩
    case round =>
      obtain ⟨i, rfl, hi0, htr⟩ := hrel
      have HTR := hide htr
      by_cases hi : i < k
      · have hd : decide ((i : Int) < k) = true := by simpa using hi
        have hil : i < L4.length := by rw [HLN.out]; exact hi
        have hnW := HN4.out.below htr.bel
        obtain ⟨bb, oo, hbo, hbb, hca⟩ := hnW.at (by omega)
        obtain ⟨rfl, rfl⟩ : blk = bb ∧ 0 = oo := by simpa using hbo
        have cn0 := (hca i hi).c0
        have cn2 := (hca i hi).c2
        rw [Nat.zero_add] at cn0 cn2
        have hrep := hnW.2.1 _ (gl_mem L4 i hil)
        have i1 : (i : Int) < k := by omega
        have HC2 := hide (Kids_new (some ⟨blk, 0, none⟩) k k L4 (gl L4 i).1.na (gl L4 i).1.nn (gl L4 i).1.nc (gl L4 i).2.names wr hnW (Nat.le_refl _) (by omega) hrep.names (by have := hrep.nc; have := hrep.ncm; omega) HF4.out hk)
        have hkd : (gl L4 i).2.kind = (gl L4 i).1.kind := hrep.kind
        have HK0 := hide (fun K (h : IsKids L4 (gl L4 i).2.names K) (hne : (gl L4 i).1.kind ≠ 1) => kids_none HCP.out hil (by rw [hkd]; exact hne) h)
        have c2' : ∀ W, Below wr.heap.size wr W → W.cell? ⟨blk, i * 10 + 2, none⟩ = some (.int .i64 (gl L4 i).1.kind) := fun W h => (h.cell hbb).trans cn2
        have HCK := hide c2'
        clear htr hnW hbo hca hrep hkd cn2 c2'
        generalize (gl L4 i).1 = v at *
        go_wp2_with (go_at_call 7; refine HC2.out.mono ?_)
        rintro e w6 ⟨a6, kn, kc, K, rfl, hKi, hkn, hkc, hkcm, hIK, hb6, hnew⟩
        have HT6 := hide (HTR.out.below hb6)
        have HKi := hide hKi
        have HIK := hide hIK
        have HNEW := hide hnew
        have ck := HCK.out _ hb6
        have hs6 := hb6.size
        have HW4 := hide (HTR.out.row.lt w4.heap.size rfl).2
        have HRS := hide (kids_rise HCP.out hIK)
        have HKL := hide hKi.1
        have HK0' := hide (HK0.out K hIK)
        clear hKi hIK hnew hb6 HC2 HK0
        by_cases hkind : v.kind = 1
        · have hkk : (v.kind != 1) = false := by simpa using hkind
          obtain ⟨W, rfl⟩ : ∃ W, W = wr := ⟨wr, rfl⟩
          go_wp2
          go_loopw [9] (fun r9 wx => ∃ jj : Nat, r9 = .int .i64 jj ∧ jj ≤ kn ∧ TR w4 k wx (tj L4 i K jj) ∧ Ki wx a6 kn K) (fun r9 _ => kn - (intOf r9).toNat)
          case atStart => exact ⟨0, rfl, Nat.zero_le _, by rw [tj_zero]; exact HT6.out, HKi.out⟩
          case round =>
            obtain ⟨jj, rfl, hjk, htr, hki⟩ := hrel
            have HTX := hide htr
            have HKX := hide hki
            by_cases hj : jj < kn
            · have hdj : decide ((jj : Int) < kn) = true := by simpa using hj
              have hjl : jj < K.length := by rw [HKL.out]; exact hj
              obtain ⟨bk, rfl, hbk, hck⟩ : ∃ b, a6 = some ⟨b, 0, none⟩ ∧ b < wr.heap.size ∧ ∀ i, i < kn → wr.cell? ⟨b, i, none⟩ = some (.int .i64 (fn0 K i : Int)) := by
                rcases hki.2 with h | h
                · omega
                · exact h
              have hnb : W.heap.size ≤ bk := HNEW.out (by omega) _ rfl
              have hXm := (HIK.out.mem (fn0 K jj)).1 (by rw [fn0_lt K jj hjl]; exact List.getElem_mem hjl)
              have hXk : fn0 K jj < k := by rw [← HLN.out]; exact hXm.1
              have cj := hck jj hj
              have ct := htr.cell hXk
              have zf := htr.row.frozenAt (fn0 K jj)
              obtain ⟨st1, st2⟩ := tj_step (L := L4) (i := i) HRS.out hjl
              have hle := tm_le L4 i (fn0 K jj)
              rw [← st1] at hle
              have HST : Hid (∀ q, TR w4 k ((wr.drewN q).setCell ⟨w4.heap.size, fn0 K jj, none⟩ (.int .i64 ((tj L4 i K jj (fn0 K jj) + 1 : Nat) : Int))) (tj L4 i K (jj + 1))) := fun q => by
                have h1 := (htr.drew q).set (fn0 K jj) (tj L4 i K jj (fn0 K jj) + 1)
                rw [st2] at h1
                exact h1
              have HKS : Hid (∀ q v, Ki ((wr.drewN q).setCell ⟨w4.heap.size, fn0 K jj, none⟩ v) (some ⟨bk, 0, none⟩) kn K) := fun q v => by
                refine ⟨HKL.out, .inr ⟨bk, rfl, by simpa using hbk, fun x hx => ?_⟩⟩
                rw [World.cell?_of_block (set_other _ _ _ _ _ (by show bk ≠ w4.heap.size; have := HW4.out; omega))]
                exact hck x hx
              have hjn : (jj : Int) < kn := by omega
              have x1 : ((fn0 K jj : Nat) : Int) < k := by omega
              have x2 : decide (((fn0 K jj : Nat) : Int) < 0) = false := by simp
              have x3 : decide (((fn0 K jj : Nat) : Int) ≥ k) = false := by simp; omega
              have x4 : ¬ k ≤ fn0 K jj := by omega
              obtain ⟨t, ht⟩ : ∃ t, t = jj - 1 := ⟨_, rfl⟩
              have HJT : Hid (0 < jj → wr.cell? ⟨bk, t, none⟩ = some (.int .i64 (fn0 K t : Int)) ∧ fn0 K t < fn0 K jj) := fun h => ⟨hck t (by omega), rise_fn0 HRS.out (by omega) hjl⟩
              obtain ⟨V1, hV1⟩ : ∃ V1, V1 = tj L4 i K jj (fn0 K jj) + 1 := ⟨_, rfl⟩
              rw [← hV1] at HST
              have vV : IntKind.i64.wrap ((tj L4 i K jj (fn0 K jj) : Int) + 1) = (V1 : Int) := by rw [IntWalk.i64_in _ (by omega)]; omega
              generalize tj L4 i K jj (fn0 K jj) = V at *
              generalize fn0 K jj = X at *
              by_cases hj0 : 0 < jj
              · have vt : IntKind.i64.wrap ((jj : Int) - 1) = (t : Int) := by rw [IntWalk.i64_in _ (by omega)]; omega
                obtain ⟨ctt, hlt⟩ := HJT.out hj0
                have htn : (t : Int) < kn := by omega
                generalize fn0 K t = Y at *
                have y1 : decide ((jj : Int) > 0) = true := by simp; omega
                have y2 : decide ((0 : Int) < jj) = true := by simp; omega
                have y3 : decide ((Y : Int) ≥ X) = false := by simp; omega
                have y4 : ¬ X ≤ Y := by omega
                clear htr hki hck HJT st1 st2 hle hXm hV1 ht hlt
                go_wp2_with fail
                go_quiet (fail)
                go_wp2
                exact ⟨⟨jj + 1, by go_num, by omega, HST.out _, HKS.out _ _⟩, by simp [intOf]; omega⟩
              · have y1 : decide ((jj : Int) > 0) = false := by simp; omega
                have y2 : decide ((0 : Int) < jj) = false := by simp; omega
                clear htr hki hck HJT st1 st2 hle hXm hV1 ht
                go_wp2_with fail
                go_quiet (fail)
                go_wp2
                exact ⟨⟨jj + 1, by go_num, by omega, HST.out _, HKS.out _ _⟩, by simp [intOf]; omega⟩
            · have hdj : decide ((jj : Int) < kn) = false := by simpa using hj
              have hjl : jj = K.length := by rw [HKL.out]; omega
              have HE : Hid (TR w4 k wr (tm L4 (i + 1))) := by
                refine htr.same fun x hx => ?_
                rw [hjl]
                exact (tj_end HIK.out (by rw [HLN.out]; exact hx)).symm
              clear htr hki hjl
              go_wp2
              exact ⟨⟨i + 1, by go_num, by omega, HE.out⟩, by simp [intOf]; omega⟩
        · have hkk : (v.kind != 1) = true := by simpa using hkind
          have hK : K = [] := HK0'.out hkind
          have hk0 : kn = 0 := by rw [← HKL.out, hK]; rfl
          have HE : Hid (TR w4 k w6 (tm L4 (i + 1))) := by
            refine HT6.out.same fun x hx => ?_
            have := tj_end HIK.out (x := x) (by rw [HLN.out]; exact hx)
            rw [hK] at this
            rw [← this]
            simp [tj]
          subst hk0
          clear hkind hK
          go_wp2
          refine wp_loop_rounds 1 ?_
          rw [rounds_succ]
          go_wp2
          exact ⟨⟨i + 1, by go_num, by omega, HE.out⟩, by simp [intOf]; omega⟩
      · have hd : decide ((i : Int) < k) = false := by simpa using hi
        have hik : i = k := by omega
        have HTK : Hid (TR w4 k wr (tm L4 k)) := by rw [hik] at htr; exact htr
        clear htr HTR hik
        obtain ⟨W, rfl⟩ : ∃ W, W = wr := ⟨wr, rfl⟩
        go_wp2
        go_loopw [10, 11] (fun r10 _ wr => ∃ i : Nat, r10 = .int .i64 i ∧ i ≤ k ∧ TR w4 k wr (tm L4 k)) (fun r10 _ _ => k - (intOf r10).toNat)
        case atStart => exact ⟨0, rfl, Nat.zero_le _, HTK.out⟩
        case round =>
          obtain ⟨j, rfl, hj0, htr⟩ := hrel
          have HTR := hide htr
          by_cases hj : j < k
          · have hdj : decide ((j : Int) < k) = true := by simpa using hj
            have hjl : j < L4.length := by rw [HLN.out]; exact hj
            have hnW := HN4.out.below htr.bel
            obtain ⟨bb, oo, hbo, hbb, hca⟩ := hnW.at (by omega)
            obtain ⟨rfl, rfl⟩ : blk = bb ∧ 0 = oo := by simpa using hbo
            have cn0 := (hca j hj).c0
            rw [Nat.zero_add] at cn0
            have hrep := hnW.2.1 _ (gl_mem L4 j hjl)
            have j1 : (j : Int) < k := by omega
            have HC3 := hide (Find_any (some ⟨blk, 0, none⟩) k k L4 (gl L4 j).1.na (gl L4 j).1.nn (gl L4 j).1.nc (gl L4 j).2.names wr hnW (Nat.le_refl _) (by omega) hrep.names HF4.out)
            rw [find_at HCP.out hjl] at HC3
            have ct := htr.cell hj
            have hnn := hrep.names.1
            have hjj : ((j : Int) != j) = false := by simp
            by_cases hr : (gl L4 j).1.nn = 0
            · have ht := tm_none (L := L4) (x := j) (List.eq_nil_of_length_eq_zero (by omega)) k
              rw [ht] at ct
              rw [hr] at cn0 HC3
              generalize (gl L4 j).1.na = vna at *
              generalize (gl L4 j).1.nc = vnc at *
              clear htr hnW hbo hca hrep hnn hr ht
              go_wp2_with (go_at_call 8; refine HC3.out.mono ?_; rintro e w7 ⟨rfl, hb7⟩; have HB7 := hide hb7; clear hb7)
              exact ⟨⟨j + 1, by go_num, by omega, HTR.out.below HB7.out⟩, by simp [intOf]; omega⟩
            · have ht := tm_one HCP.out hjl (fun e => by rw [e] at hnn; simp at hnn; omega)
              rw [HLN.out] at ht
              rw [ht] at ct
              have hr1 : (((gl L4 j).1.nn : Int) == 0) = false := by simp; omega
              have hr2 : ¬ (gl L4 j).1.nn = 0 := hr
              generalize (gl L4 j).1.nn = vnn at *
              generalize (gl L4 j).1.na = vna at *
              generalize (gl L4 j).1.nc = vnc at *
              clear htr hnW hbo hca hrep hnn ht hr
              go_wp2_with (go_at_call 8; refine HC3.out.mono ?_; rintro e w7 ⟨rfl, hb7⟩; have HB7 := hide hb7; clear hb7)
              exact ⟨⟨j + 1, by go_num, by omega, HTR.out.below HB7.out⟩, by simp [intOf]; omega⟩
          · have hdj : decide ((j : Int) < k) = false := by simpa using hj
            clear htr
            go_wp2
            go_ret
            exact ⟨rfl, E4.out.trans (HTR.out.bel.mono E4.out.size)⟩
  · have HC1 := hide (Canon_no ao k c' F w2 HN.out h1 h2 z hz h0)
    have hzz : (z != 0) = true := by simpa using h0
    clear hz h0
    go_wp2_with (go_at_call 5; refine HC1.out.mono ?_; rintro e w4 ⟨rfl, hb4⟩; have E4 := hide (E2.out.trans (hb4.mono E2.out.size)); clear hb4)
    go_ret
    exact ⟨rfl, E4.out⟩
end Go.Proofs.Ytppmekmaclolbab

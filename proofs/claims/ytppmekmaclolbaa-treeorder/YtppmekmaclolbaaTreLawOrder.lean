/- Layer 7: the statement TreeOrder, walked. -/
import Derived.Test.YtppmekmaclolbaaTreLawChecks
import Derived.Test.YtppmekmaclolbaaTreOrd0
import Derived.Deep.CutRange
namespace Go.Proofs.Ytppmekmaclolbaa
set_option linter.unusedVariables false
open Go.RowKit Go.Maps
open Nam Tre

/-- Two rows of nodes of one's own, together those of X. -/
structure TwoR (w wr : World) (X : List (Nv × Nod)) (ra : Option Addr) (na ca : Nat) (A : List (Nv × Nod)) (rb : Option Addr) (nb cb : Nat) (B : List (Nv × Nod)) : Prop where
  row : wr.ownsRow w.heap.size 42 10 (.slice ra na ca) na (nvs (A.map (fun p => p.1)))
  rob : wr.ownsRow w.heap.size 42 10 (.slice rb nb cb) nb (nvs (B.map (fun p => p.1)))
  perm : (A ++ B).Perm X
  bel : Below w.heap.size w wr
  ne : ∀ p, (Value.slice ra na ca).ownBlock = some p → (Value.slice rb nb cb).ownBlock ≠ some p
theorem TwoR.next {w wr w6 w8 : World} {X A B : List (Nv × Nod)} {ra rb rb2 a8 : Option Addr} {na ca nb cb cb2 c8 t : Nat} (h : TwoR w wr X ra na ca A rb nb cb B) (hA : A.length = na) (ht : t < na)
    (ho : w6.ownsRow w.heap.size 42 10 (.slice rb2 (nb + 1) cb2) (nb + 1) (nvs (B.map (fun p => p.1) ++ [(gl A t).1]))) (hb6 : Below w.heap.size w w6)
    (h8 : w8.ownsRow w6.heap.size 42 10 (.slice a8 (na - 1) c8) (na - 1) (nvs ((A.map (fun p => p.1)).take t ++ (A.map (fun p => p.1)).drop (t + 1)))) (hb8 : Below w6.heap.size w6 w8) :
    TwoR w w8 X a8 (na - 1) c8 (A.take t ++ A.drop (t + 1)) rb2 (nb + 1) cb2 (B ++ [gl A t]) := by
  refine ⟨?_, ?_, ?_, hb6.trans (hb8.mono hb6.size), ?_⟩
  · have := owns_low h8 hb6.size
    simpa using this
  · have := owns_below ho hb8
    simpa using this
  · refine List.Perm.trans ?_ h.perm
    have e : A = A.take t ++ ([gl A t] ++ A.drop (t + 1)) := by
      conv => lhs; rw [← List.take_append_drop t A]
      rw [List.drop_eq_getElem_cons (by omega), gl_lt A t (by omega)]; rfl
    conv => rhs; rw [e]
    rw [List.append_assoc, List.append_assoc]
    refine List.Perm.append_left _ ?_
    rw [List.append_assoc, ← List.append_assoc (A.drop (t + 1))]
    exact List.perm_append_comm
  · intro p hp e
    have h1 := (h8.lt p hp).1
    have h2 := (ho.lt p e).2
    omega
theorem refSameRows' {a b : Option Addr} {n m c : Nat} {w : World} {P : Ending → World → Prop} (e : m = n) (h : Calls Try.prog 15 #[.slice a n c, .slice b n n] w P) :
    Calls Try.prog 15 #[.slice a n c, .slice b m m] w P := by subst e; exact h
set_option maxRecDepth 100000 in
set_option maxHeartbeats 4000000 in
theorem order_walk (a : Option Addr) (n c : Nat) (L : List (Nv × Nod)) (oa : Option Addr) (on oc : Nat) (Z : Nat → Int) (x : Int) (w : World) (hl : Ns w a n L) (hc : n ≤ c) (hcm : c ≤ 9223372036854775807) (hz : IntsB w oa on oc Z) (hxw : (Lit.int .i64 x).wf = true) :
    Calls Try.prog 7 #[.slice a n c, .slice oa on oc, .int .i64 x] w fun e w' => e = .returned (.bool true) ∧ Below w.heap.size w w' := by
  have HL := hide hl
  have HZI := hide hz
  clear hl hz hxw
  go_enter Try.func7, Try.ntmps7
  go_wp2_with (go_at_call 9; refine (shown_any _).mono ?_)
  rintro e w1 ⟨rfl, hb1⟩
  have E1 := hide hb1
  clear hb1
  go_wp2_with (go_at_call 10; refine (few_any a n c L _ (HL.out.below E1.out) hc hcm).mono ?_)
  rintro e w2 ⟨ao, k, c', rfl, hk, hown, hns, hb2⟩
  have hcap := cap_owns hown
  have E2 := hide (E1.out.trans (hb2.mono E1.out.size))
  have HN := hide hns
  obtain ⟨h1, h2, h3⟩ := hcap
  clear hown hns hb2 h3
  generalize fewL L = F at *
  obtain ⟨z, hz⟩ : ∃ z, check (nds F) = z := ⟨_, rfl⟩
  have HC1 : Hid (Calls Try.prog 13 #[.slice ao k c'] w2 fun e w' => ∃ a4 n4 c4, e = .returned (.tuple #[.slice a4 n4 c4, .int .i64 z]) ∧ (z ≠ 0 → n4 = 0) ∧ (z = 0 → ∃ L4 : List (Nv × Nod), n4 = k ∧ n4 = c4 ∧ Ns w' a4 k L4 ∧ (∀ p ∈ L4, p.2.names.length ≤ 1000000) ∧ IsCanon (nds F) (nds L4)) ∧ Below w2.heap.size w2 w') := by
    by_cases h0 : z = 0
    · subst h0
      refine (Canon_ok ao k c' F w2 HN.out h1 h2 hz).mono ?_
      rintro e w4 ⟨blk, L4, rfl, hown4, hgood4, hic4, hb4⟩
      exact ⟨_, k, k, rfl, fun h => absurd rfl h, fun _ => ⟨L4, rfl, rfl, (sh_of_owns hown4).ns (fun p hp => (hgood4 p hp).rep), fun p hp => (hgood4 p hp).few, hic4⟩, hb4⟩
    · refine (Canon_no ao k c' F w2 HN.out h1 h2 z hz h0).mono ?_
      rintro e w4 ⟨rfl, hb4⟩
      exact ⟨none, 0, 0, rfl, fun _ => rfl, fun h => absurd h h0, hb4⟩
  have HZ := hide hz
  clear hz
  go_wp2_with (go_at_call 13; refine HC1.out.mono ?_)
  rintro e w4 ⟨a4, n4, c4, rfl, hno4, hyes4, hb4⟩
  have E4 := hide (E2.out.trans (hb4.mono E2.out.size))
  have HN4 := hide (HN.out.below hb4)
  have HNO := hide hno4
  have HYES := hide hyes4
  have HFL := hide HN.out.1
  clear hno4 hyes4 hb4 HC1
  go_wp2
  go_loopw [10, 11, 12] (fun r10 r11 _ wr => ∃ (i : Nat) (ro : Option Addr) (rc : Nat), r10 = .slice ro i rc ∧ r11 = .int .i64 i ∧ i ≤ k ∧ w4.heap.size < wr.heap.size ∧ wr.ownsRow w4.heap.size 42 10 (.slice ro i rc) i (nvs (((F.map (rx x)).take i).map (fun p => p.1))) ∧ Below w4.heap.size w4 wr) (fun _ r11 _ _ => k - (intOf r11).toNat)
  case atStart => exact ⟨0, _, _, rfl, rfl, Nat.zero_le _, by simp, by simpa using emptyN (Nat.le_refl _), (Below.refl _ _).alloc (Nat.le_refl _) _⟩
  case round =>
    obtain ⟨i, ro, rc, rfl, rfl, hi0, hsz, hown, hbel⟩ := hrel
    have HB := hide hbel
    have HO := hide hown
    by_cases hi : i < k
    · have hd : decide ((i : Int) < k) = true := by simpa using hi
      have hil : i < F.length := by rw [HFL.out]; exact hi
      obtain ⟨ba, oa', rfl, hba, hca⟩ := (HN4.out.below hbel).at (by omega)
      obtain ⟨c0, c1, c2, c3, c4', c5, c6, c7, c8, c9⟩ := hca i hi
      have HT : Hid (((F.map (rx x)).take (i + 1)).map (fun p => p.1) = ((F.map (rx x)).take i).map (fun p => p.1) ++ [{ (gl F i).1 with ino := xo (gl F i).1.ino x }]) := by
        show _ = _
        rw [List.take_succ_eq_append_getElem (by simpa using hil), List.map_append, gl_lt F i hil]
        simp [rx]
      generalize (gl F i).1 = v at *
      obtain ⟨V, hV⟩ : ∃ V, V = ((F.map (rx x)).take i).map (fun p => p.1) := ⟨_, rfl⟩
      rw [← hV] at hown HT
      have HO2 := hide hown
      have hi1 : (i : Int) < k := by omega
      clear hca hown hbel HO hV
      go_wp2_with (at_builtin; refine wpList_append_nod _ rfl _ _ rfl w4.heap.size _ _ _ V rfl ((HO2.out.alloc _).alloc _) _ _ _ _ rfl (sh_one' (v := ⟨v.na, v.nn, v.nc, bits .xor .i64 v.ino x, v.kind, v.mode, v.uid, v.gid, v.da, v.dn, v.dc, v.tg, v.xa, v.xn, v.xc, v.op⟩) (by simp)) (fun h => by cases h) (by omega) (by simp; omega) ?_)
      intro ao2 k2 w6 hown2 hg2
      have HO3 : Hid (w6.ownsRow w4.heap.size 42 10 (.slice ao2 (i + 1) k2) (i + 1) (nvs (((F.map (rx x)).take (i + 1)).map (fun p => p.1)))) := by rw [HT.out]; exact hown2
      have e2 := hide (((HB.out.alloc (by omega) _).alloc (by simp; omega) _).grown hg2 (by simp; omega) (fun k e => (HO2.out.lt k e).1))
      have s2 := hg2.size
      simp only [World.size_alloc] at s2
      clear hown2 hg2 HT
      go_wp2
      exact ⟨⟨i + 1, ao2, k2, rfl, by go_num, by omega, by omega, HO3.out, e2.out⟩, by simp [intOf]; omega⟩
    · have hd : decide ((i : Int) < k) = false := by simpa using hi
      obtain rfl : i = k := by omega
      have HX : Hid (wr.ownsRow w4.heap.size 42 10 (.slice ro i rc) i (nvs ((F.map (rx x)).map (fun p => p.1)))) := by
        have e : (F.map (rx x)).take i = F.map (rx x) := List.take_of_length_le (by rw [List.length_map, HFL.out]; omega)
        rw [e] at hown
        exact hown
      clear hown hbel HO
      have HT0 : Hid (TwoR w4 (wr.alloc (.cells #[] 42)) (F.map (rx x)) ro i rc (F.map (rx x)) (some ⟨wr.heap.size, 0, none⟩) 0 0 []) := by
        refine ⟨HX.out.alloc _, by simpa using emptyN HB.out.size, by simp, HB.out.alloc HB.out.size _, fun p hp => ?_⟩
        have := (HX.out.lt p hp).2
        simp [Value.ownBlock]; omega
      obtain ⟨W, rfl⟩ : ∃ W, W = wr := ⟨wr, rfl⟩
      go_wp2
      go_loopw [10, 13, 14, 15] (fun r10 r13 r14 _ wr => ∃ (na nb ca cb : Nat) (ra rb : Option Addr) (A B : List (Nv × Nod)), r10 = .slice ra na ca ∧ r13 = .slice rb nb cb ∧ r14 = .int .i64 nb ∧ TwoR w4 wr (F.map (rx x)) ra na ca A rb nb cb B) (fun r10 _ _ _ _ => match r10 with | .slice _ n _ => n | _ => 0)
      case atStart => exact ⟨i, 0, rc, 0, ro, _, _, [], rfl, rfl, rfl, HT0.out⟩
      case round =>
        obtain ⟨na, nb, ca, cb, ra, rb, A, B, rfl, rfl, rfl, htw⟩ := hrel
        have HTW := hide htw
        by_cases hn0 : 0 < na
        · have hdn : decide ((0 : Int) < na) = true := by simp; omega
          have hn1 : (0 : Int) < na := by omega
          have HZW := hide ((HZI.out.below E4.out).below (show Below w4.heap.size w4 wr from htw.bel))
          have hal : A.length = na := by have := htw.row.1; rw [nvs_length, List.length_map] at this; omega
          have hbl : B.length = nb := by have := htw.rob.1; rw [nvs_length, List.length_map] at this; omega
          have hpl := htw.perm.length_eq
          rw [List.length_append, hal, hbl, List.length_map, HFL.out] at hpl
          have hna60 : na ≤ 60 := by omega
          have hnb60 : nb ≤ 60 := by omega
          clear htw HT0 hpl hal hbl
          go_upto_if 59 with fail
          go_cut [15] from 51 to 87 (fun s15 wx => ∃ m : Int, s15 = .int .i64 m ∧ -(na : Int) < m ∧ m < na ∧ wx = wr)
          case first =>
            by_cases hj : nb < on
            · have hdj : decide ((nb : Int) < on) = true := by simpa using hj
              have hj1 : (nb : Int) < on := by omega
              obtain ⟨ob, off, rfl, hob, hcz⟩ : ∃ b off, oa = some ⟨b, off, none⟩ ∧ b < wr.heap.size ∧ ∀ i, i < on → wr.cell? ⟨b, off + i, none⟩ = some (.int .i64 (Z i)) ∧ In64 (Z i) := by
                rcases HZW.out.2 with h | h
                · omega
                · exact h
              have cz := (hcz nb hj).1
              obtain ⟨m, hm⟩ : ∃ m, (Z nb).tmod na = m := ⟨_, rfl⟩
              have hm1 : -(na : Int) < m ∧ m < na := by
                rw [← hm]
                have := Int.lt_tmod_of_pos (Z nb) hn1
                have := Int.tmod_lt_of_pos (Z nb) hn1
                omega
              have HM1 := hide hm1
              have hnz : ((na : Int) == 0) = false := by simp; omega
              have hnz2 : ¬ (na : Int) = 0 := by omega
              clear hcz hm1
              go_wp2_with fail
              go_meet
              exact ⟨m, rfl, HM1.out.1, HM1.out.2, rfl⟩
            · have hdj : decide ((nb : Int) < on) = false := by simpa using hj
              go_wp2_with fail
              go_meet
              exact ⟨0, rfl, by omega, by omega, rfl⟩
          case rest =>
            obtain ⟨m, rfl, hm1, hm2, rfl⟩ := hcut
            go_upto_if 68 with fail
            go_cut [15] from 51 to 87 (fun s15 wx => ∃ t : Nat, s15 = .int .i64 t ∧ t < na ∧ wx = wc)
            case first =>
              by_cases hm : m < 0
              · have hdm : decide (m < 0) = true := by simpa using hm
                have hwn : IntKind.i64.wrap (-m) = -m := IntWalk.i64_in _ (by omega)
                go_wp2_with fail
                go_meet
                exact ⟨(-m).toNat, by congr 1; omega, by omega, rfl⟩
              · have hdm : decide (m < 0) = false := by simpa using hm
                go_wp2_with fail
                go_meet
                exact ⟨m.toNat, by congr 1; omega, by omega, rfl⟩
            case rest =>
              obtain ⟨t, rfl, ht, rfl⟩ := hcut
              have hal : A.length = na := by have := HTW.out.row.1; rw [nvs_length, List.length_map] at this; omega
              obtain ⟨ga, ca', hv, hga, hgl⟩ := HTW.out.row.form hn0
              obtain ⟨rfl, _, rfl⟩ : ra = some ⟨ga, 0, none⟩ ∧ na = na ∧ ca = ca' := by simpa using hv
              obtain ⟨b', off', hbo, hb', hat⟩ := (sh_of_owns HTW.out.row).at hn0
              obtain ⟨rfl, rfl⟩ : ga = b' ∧ 0 = off' := by simpa using hbo
              obtain ⟨v, hvv, hat2⟩ : ∃ v, v = (gl A t).1 ∧ NodAt wc ga (t * 10) v := ⟨_, rfl, by have := hat t ht; rw [Nat.zero_add, gv_map A t (by omega)] at this; exact this⟩
              obtain ⟨d0, d1, d2, d3, d4, d5, d6, d7, d8, d9⟩ := hat2
              have HVV := hide hvv
              have HAL := hide hal
              have hsz := HTW.out.bel.size
              have ht1 : (t : Int) < na := by omega
              obtain ⟨q1, q2, _⟩ := cap_owns HTW.out.row
              clear hat hbo hv hvv hal hm1 hm2
              go_wp2_with (at_builtin; refine wpList_append_nod _ rfl _ _ rfl w4.heap.size _ _ _ (B.map (fun p => p.1)) rfl (HTW.out.rob.alloc _) _ _ _ [v] rfl (sh_one' (by simp)) (fun h => by cases h) (by omega) (by simp; omega) ?_)
              intro rb2 cb2 w6 hown6 hg6
              have hb6 : Below w4.heap.size w4 w6 := (HTW.out.bel.alloc hsz _).grown hg6 (by simp; omega) (fun k e => (HTW.out.rob.lt k e).1)
              have hrA := (HTW.out.row.alloc (.cells v.cells 42)).kept hg6 (.inr (fun e => HTW.out.ne ga rfl e.symm))
              have HB6 := hide hb6
              have HO6 := hide hown6
              have hshA := sh_of_owns hrA
              have HOJ := hide (hshA.take t (by omega))
              have SHD : Hid (∀ W, Below w6.heap.size w6 W → ∀ off', (off' = (t + 1) * 10 ∨ na - (t + 1) = 0) → Sh W (some ⟨ga, off', none⟩) (na - (t + 1)) ((A.map (fun p => p.1)).drop (t + 1))) := fun W hW off' ho => by
                rcases ho with rfl | ho
                · have := (hshA.below hW).drop (t + 1) (by omega)
                  rw [Nat.zero_add] at this
                  exact this
                · exact ⟨by rw [List.length_drop, List.length_map, HAL.out], .inl ho⟩
              have hw1 : IntKind.i64.wrap ((t : Int) + 1) = (t : Int) + 1 := IntWalk.i64_in _ (by omega)
              have hb1 : (t : Int) + 1 ≤ na := by omega
              have hb2 : (t : Int) ≤ ca := by omega
              have hb0 : (0 : Int) ≤ (t : Int) := by omega
              have hb3 : (na : Int) ≤ ca := by omega
              have hb4 : (t : Int) + 1 ≤ ca := by omega
              have hb5 : (0 : Int) ≤ (t : Int) + 1 := by omega
              clear hown6 hg6 hb6 hrA hshA d0 d1 d2 d3 d4 d5 d6 d7 d8 d9
              by_cases hcj : ca = t + 1
              · have hij : Hid (na - (t + 1) = 0) := by show _ = _; omega
                have hb6 : (t : Int) ≤ (t : Int) + 1 := by omega
                go_wp2
                go_region_held3 (fun _ => True) (trivial)
                  ((first
                    | (refine step_append_nod _ (by rfl) (.tmp 78) (.tmp 81) (by rfl) w6 (by repeat (first | exact HB5.out | exact HB4.out | exact HB3.out | exact Below.refl _ _ | apply up_drew | apply up_drewN | apply up_alloc)) _ _ _ [] (by rfl) (emptyN' (by simp) (by simp)) _ _ _ ((A.map (fun p => p.1)).take t) (by rfl) (HOJ.out.below (by repeat (first | exact HB5.out | exact HB4.out | exact HB3.out | exact Below.refl _ _ | apply up_drew | apply up_drewN | apply up_alloc))) (fun h => by cases h) t (by omega) _ rfl (by omega) ?_; intro a7 c7 w7 hown7 hg7 hb7; have HO7 := hide hown7; have HB3 := hide hb7; clear hown7 hg7 hb7)
                    | (refine step_append_nod _ (by rfl) (.tmp 82) (.tmp 86) (by rfl) w6 (by repeat (first | exact HB5.out | exact HB4.out | exact HB3.out | exact Below.refl _ _ | apply up_drew | apply up_drewN | apply up_alloc)) _ _ _ ((A.map (fun p => p.1)).take t) (by rfl) (by exact HO7.out) _ _ _ ((A.map (fun p => p.1)).drop (t + 1)) (by rfl) (SHD.out _ (by repeat (first | exact HB5.out | exact HB4.out | exact HB3.out | exact Below.refl _ _ | apply up_drew | apply up_drewN | apply up_alloc)) _ (by first | exact .inl rfl | exact .inr hij.out)) (fun h => by cases h) (na - 1) (by omega) _ rfl (by omega) ?_; intro a8 c8 w8 hown8 hg8 hb8; have HO8 := hide hown8; have HB4 := hide hb8; clear hown8 hg8 hb8)))
                all_goals (
                  have HNX := hide (HTW.out.next HAL.out ht (by rw [← HVV.out]; exact HO6.out) HB6.out HO8.out HB4.out)
                  clear SHD HOJ HO6 HB6 HO8 HB4 HO7 HB3
                  go_wp2
                  exact ⟨⟨na - 1, nb + 1, c8, cb2, a8, rb2, _, _, rfl, rfl, by go_num, HNX.out⟩, by show na - 1 < na; omega⟩)
              · go_wp2
                go_region_held3 (fun _ => True) (trivial)
                  ((first
                    | (refine step_append_nod _ (by rfl) (.tmp 78) (.tmp 81) (by rfl) w6 (by repeat (first | exact HB5.out | exact HB4.out | exact HB3.out | exact Below.refl _ _ | apply up_drew | apply up_drewN | apply up_alloc)) _ _ _ [] (by rfl) (emptyN' (by simp) (by simp)) _ _ _ ((A.map (fun p => p.1)).take t) (by rfl) (HOJ.out.below (by repeat (first | exact HB5.out | exact HB4.out | exact HB3.out | exact Below.refl _ _ | apply up_drew | apply up_drewN | apply up_alloc))) (fun h => by cases h) t (by omega) _ rfl (by omega) ?_; intro a7 c7 w7 hown7 hg7 hb7; have HO7 := hide hown7; have HB3 := hide hb7; clear hown7 hg7 hb7)
                    | (refine step_append_nod _ (by rfl) (.tmp 82) (.tmp 86) (by rfl) w6 (by repeat (first | exact HB5.out | exact HB4.out | exact HB3.out | exact Below.refl _ _ | apply up_drew | apply up_drewN | apply up_alloc)) _ _ _ ((A.map (fun p => p.1)).take t) (by rfl) (by exact HO7.out) _ _ _ ((A.map (fun p => p.1)).drop (t + 1)) (by rfl) (SHD.out _ (by repeat (first | exact HB5.out | exact HB4.out | exact HB3.out | exact Below.refl _ _ | apply up_drew | apply up_drewN | apply up_alloc)) _ (by first | exact .inl rfl | exact .inr hij.out)) (fun h => by cases h) (na - 1) (by omega) _ rfl (by omega) ?_; intro a8 c8 w8 hown8 hg8 hb8; have HO8 := hide hown8; have HB4 := hide hb8; clear hown8 hg8 hb8)))
                all_goals (
                  have HNX := hide (HTW.out.next HAL.out ht (by rw [← HVV.out]; exact HO6.out) HB6.out HO8.out HB4.out)
                  clear SHD HOJ HO6 HB6 HO8 HB4 HO7 HB3
                  go_wp2
                  exact ⟨⟨na - 1, nb + 1, c8, cb2, a8, rb2, _, _, rfl, rfl, by go_num, HNX.out⟩, by show na - 1 < na; omega⟩)
        · obtain rfl : na = 0 := by omega
          have hal : A.length = 0 := by have := htw.row.1; rw [nvs_length, List.length_map] at this; omega
          have hA : A = [] := List.eq_nil_of_length_eq_zero (by omega)
          have hbl : B.length = nb := by have := htw.rob.1; rw [nvs_length, List.length_map] at this; omega
          have hpm : B.Perm (F.map (rx x)) := by have := htw.perm; rw [hA] at this; exact this
          have hnb : nb = i := by rw [← hbl, hpm.length_eq, List.length_map]; exact HFL.out
          have hnW : Ns wr ao i F := HN4.out.below htw.bel
          have hrB : ∀ p ∈ B, Rep wr p.1 p.2 := fun p hp => by
            obtain ⟨q, hq, rfl⟩ := List.mem_map.1 (hpm.mem_iff.1 hp)
            exact rep_rx (hnW.2.1 q hq) x
          have hpn : (nds B).Perm ((nds F).map (ri (fun z => xo z x))) := by rw [← nds_rx x F hnW.2.1]; exact hpm.map _
          have hinj : InjOn (fun z => xo z x) (nds F) := inj_xo x F hnW.2.1
          have HNB := hide ((sh_of_owns htw.rob).ns hrB)
          have HCK := hide (again_check hinj hpn)
          have HCN := hide (fun r (h : IsCanon (nds F) r) => again_canon hinj hpn h)
          have E5 := hide (E4.out.trans (htw.bel.mono E4.out.size))
          have HBW := hide htw.bel
          obtain ⟨p1, p2, _⟩ := cap_owns htw.rob
          have HNI := hide hnb
          clear htw HT0 hal hA hbl hpm hnW hrB hpn hinj HTW hnb hn0
          by_cases h0 : z = 0
          · subst h0
            obtain ⟨L4, e1, e2, hn4, hf4, hic4⟩ := HYES.out rfl
            have HND := hide (check_zero HZ.out).2.2.2.1
            have HC2 := hide (Canon_ok rb nb cb B wr HNB.out p1 p2 (HCK.out.2 HZ.out))
            have HN5 := hide (show Ns wr a4 n4 L4 by rw [e1]; exact hn4.below HBW.out)
            have HF5 := hide hf4
            have HI5 := hide hic4
            have q1 : n4 ≤ c4 := by omega
            have q2 : c4 ≤ 9223372036854775807 := by omega
            have HE1 := hide (HNI.out.trans e1.symm)
            clear hn4 hf4 hic4 HYES HNO e1 e2
            go_wp2_with (go_at_call 13; refine HC2.out.mono ?_)
            rintro e w5 ⟨blk, L5, rfl, hown5, hgood5, hic5, hb5⟩
            have E6 := hide (E5.out.trans (hb5.mono E5.out.size))
            have HA5 := hide ((sh_of_owns hown5).ns (fun p hp => (hgood5 p hp).rep))
            have HCE := hide (canon_one (check_zero (HCK.out.2 HZ.out)).2.2.2.1 (HCN.out _ HI5.out) hic5)
            have HC3 := hide (Canon_ok a4 n4 c4 L4 w5 (HN5.out.below hb5) q1 q2 (canon_check HZ.out HI5.out))
            have HN6 := hide (HN5.out.below hb5)
            clear hown5 hgood5 hic5 hb5 HC2
            go_wp2_with (go_at_call 13; refine HC3.out.mono ?_)
            rintro e w6 ⟨blk6, L6, rfl, hown6, hgood6, hic6, hb6⟩
            have E7 := hide (E6.out.trans (hb6.mono E6.out.size))
            have HA6 := hide ((sh_of_owns hown6).ns (fun p hp => (hgood6 p hp).rep))
            have HCF := hide (canon_one (check_zero (canon_check HZ.out HI5.out)).2.2.2.1 (canon_again HI5.out) hic6)
            have HN7 := hide (HN6.out.below hb6)
            have HC4 : Hid (Calls Try.prog 15 #[.slice a4 n4 c4, .slice (some ⟨blk, 0, none⟩) nb nb] w6 fun e w' => e = .returned (.bool true) ∧ Below w6.heap.size w6 w') := by
              refine refSameRows' HE1.out (refSameRows a4 _ n4 c4 n4 L4 L5 w6 HN7.out ?_ HCE.out HF5.out q1 q2)
              have := HA5.out.below hb6
              rw [HE1.out] at this
              exact this
            clear hown6 hgood6 hic6 hb6 HC3
            go_wp2_with (go_at_call 15; refine HC4.out.mono ?_)
            rintro e w7 ⟨rfl, hb7⟩
            have E8 := hide (E7.out.trans (hb7.mono E7.out.size))
            have HC5 := hide (refSameRows a4 (some ⟨blk6, 0, none⟩) n4 c4 n4 L4 L6 w7 (HN7.out.below hb7) (HA6.out.below hb7) HCF.out HF5.out q1 q2)
            clear hb7 HC4
            go_wp2_with (go_at_call 15; refine HC5.out.mono ?_)
            rintro e w8 ⟨rfl, hb8⟩
            have E9 := hide (E8.out.trans (hb8.mono E8.out.size))
            clear hb8
            go_wp2
            go_ret
            exact ⟨rfl, E9.out⟩
          · have hzz : (z != 0) = true := by simpa using h0
            obtain ⟨z2, hz2⟩ : ∃ z2, check (nds B) = z2 := ⟨_, rfl⟩
            have hz3 : z2 ≠ 0 := fun e => h0 (by rw [← HZ.out]; exact HCK.out.1 (hz2.trans e))
            have hz4 : (z2 != 0) = true := by simpa using hz3
            have hn4 := HNO.out h0
            have HC2 := hide (Canon_no rb nb cb B wr HNB.out p1 p2 z2 hz2 hz3)
            clear hz2 hz3 h0
            subst hn4
            go_wp2_with (go_at_call 13; refine HC2.out.mono ?_)
            rintro e w5 rfl hb5
            have E6 := hide (E5.out.trans (hb5.mono E5.out.size))
            clear hb5 HC2
            go_wp2
            go_ret
            exact ⟨rfl, E6.out⟩
end Go.Proofs.Ytppmekmaclolbaa

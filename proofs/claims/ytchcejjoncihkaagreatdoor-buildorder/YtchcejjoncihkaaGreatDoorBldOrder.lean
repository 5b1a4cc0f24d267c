/- What the proof stands on: BldOrder, with what the proof reaches of it. -/
import Derived.Test.YtchcejjoncihkaaGreatDoorJBldBuild
import Derived.Test.YtchcejjoncihkaaGreatDoorBldFew
import Derived.Test.YtchcejjoncihkaaGreatDoorTreApp
import Derived.Test.YtchcejjoncihkaaGreatDoorTreOrd0
import Derived.Deep.CutRange

/- Layer 14: the statement BuildOrder, walked. -/
namespace Go.Proofs.YtchcejjoncihkaaGreatDoor
set_option linter.unusedVariables false
open Go.RowKit Go.Maps
open Lz (g)
open Crc (ent)
open Nam Tre Bld

/-- Two rows of nodes of one's own: what is left of X, and what of X was turned. -/
structure TwoT (x : Int) (w wr : World) (X : List (Nv × Nod)) (ra : Option Addr) (na ca : Nat) (A : List (Nv × Nod)) (rb : Option Addr) (nb cb : Nat) (B : List (Nv × Nod)) : Prop where
  row : wr.ownsRow w.heap.size 37 10 (.slice ra na ca) na (nvs (A.map (fun p => p.1)))
  rob : wr.ownsRow w.heap.size 37 10 (.slice rb nb cb) nb (nvs (B.map (fun p => p.1)))
  perm : (A.map (rx x) ++ B).Perm (X.map (rx x))
  bel : Below w.heap.size w wr
  ne : ∀ p, (Value.slice ra na ca).ownBlock = some p → (Value.slice rb nb cb).ownBlock ≠ some p
theorem TwoT.next {x : Int} {w wr w6 w8 : World} {X A B : List (Nv × Nod)} {ra rb rb2 a8 : Option Addr} {na ca nb cb cb2 c8 t : Nat} (h : TwoT x w wr X ra na ca A rb nb cb B) (hA : A.length = na) (ht : t < na)
    (ho : w6.ownsRow w.heap.size 37 10 (.slice rb2 (nb + 1) cb2) (nb + 1) (nvs (B.map (fun p => p.1) ++ [(rx x (gl A t)).1]))) (hb6 : Below w.heap.size w w6)
    (h8 : w8.ownsRow w6.heap.size 37 10 (.slice a8 (na - 1) c8) (na - 1) (nvs ((A.map (fun p => p.1)).take t ++ (A.map (fun p => p.1)).drop (t + 1)))) (hb8 : Below w6.heap.size w6 w8) :
    TwoT x w w8 X a8 (na - 1) c8 (A.take t ++ A.drop (t + 1)) rb2 (nb + 1) cb2 (B ++ [rx x (gl A t)]) := by
  refine ⟨?_, ?_, ?_, hb6.trans (hb8.mono hb6.size), ?_⟩
  · have := owns_low h8 hb6.size
    simpa using this
  · have := owns_below ho hb8
    simpa using this
  · refine List.Perm.trans ?_ h.perm
    have e : A = A.take t ++ ([gl A t] ++ A.drop (t + 1)) := by
      conv => lhs; rw [← List.take_append_drop t A]
      rw [List.drop_eq_getElem_cons (by omega), gl_lt A t (by omega)]; rfl
    conv => rhs; rw [e]
    rw [List.map_append, List.map_append, List.map_append, List.append_assoc, List.append_assoc, List.append_assoc]
    refine List.Perm.append_left _ ?_
    rw [← List.append_assoc]
    exact List.perm_append_comm
  · intro p hp e
    have h1 := (h8.lt p hp).1
    have h2 := (ho.lt p e).2
    omega
set_option maxRecDepth 100000 in
set_option maxHeartbeats 4000000 in
theorem order_walk (a : Option Addr) (n c : Nat) (L : List (Nv × Nod)) (oa : Option Addr) (on oc : Nat) (Z : Nat → Int) (x : Int) (w : World) (hl : Ns w a n L) (hc : n ≤ c) (hcm : c ≤ 9223372036854775807) (hz : IntsB w oa on oc Z) (hxw : (Lit.int .i64 x).wf = true) (hW : Wid w) :
    Calls Tryz.prog 4 #[.slice a n c, .slice oa on oc, .int .i64 x] w fun e w' => e = .returned (.bool true) ∧ Below w.heap.size w w' := by
  have HL := hide hl
  have HZI := hide hz
  have HW := hide hW
  clear hl hz hxw hW
  go_enter Tryz.func4, Tryz.ntmps4
  go_wp2_with (go_at_call 8; refine (shown_any _ HW.out).mono ?_)
  rintro e w1 ⟨rfl, hb1⟩
  have E1 := hide hb1
  clear hb1
  go_wp2_with (go_at_call 9; refine (few_any a n c L _ (HL.out.below E1.out) hc hcm).mono ?_)
  rintro e w2 ⟨ao, k, c', rfl, hk, hown, hns, hb2⟩
  have hcap := cap_owns hown
  have E2 := hide (E1.out.trans (hb2.mono E1.out.size))
  have HN := hide hns
  have HSh := hide (sh_of_owns hown)
  obtain ⟨h1, h2, h3⟩ := hcap
  have H3 := hide h3
  clear hown hns hb2 h3
  generalize fewL L = F at *
  have HB1 := hide (Build_few ao k c' F w2 HN.out h1 h2 hk (HW.out.below E2.out HW.out.pos))
  go_wp2_with (go_at_call 10; refine HB1.out.mono ?_)
  rintro e w4 ⟨hb4, hAns⟩
  obtain ⟨xo', xn, xc, ze, IM, rfl, hBx, hdec⟩ : ∃ xo' xn xc ze IM, e = .returned (.tuple #[.slice xo' xn xc, .int .i64 ze]) ∧ Bs w4 xo' xn IM ∧ ((check (nds F) ≠ 0 ∧ IM = [] ∧ ze = check (nds F)) ∨ (check (nds F) = 0 ∧ ze = 0 ∧ ∃ l own, IsCanon (nds F) l ∧ OwnN l own ∧ IM = im l own)) := by
    rcases hAns with ⟨h, rfl⟩ | ⟨h0, l, own, ib, hc, ho, ht, rfl, hib, hB⟩
    · exact ⟨none, 0, 0, _, [], rfl, ⟨rfl, fun i => by simp [g], .inl rfl⟩, .inl ⟨h, rfl, rfl⟩⟩
    · exact ⟨_, _, _, _, _, rfl, hB, .inr ⟨h0, rfl, l, own, hc, ho, rfl⟩⟩
  have E4 := hide (E2.out.trans (hb4.mono E2.out.size))
  have HN4 := hide (HN.out.below hb4)
  have HSh4 := hide (HSh.out.below hb4)
  have HBx := hide hBx
  have HDec := hide hdec
  have HFL := hide HN.out.1
  clear hBx hdec hAns hb4 HB1 HSh
  go_wp2_with (at_builtin; refine wpList_append_nod _ rfl _ _ rfl w4.heap.size _ _ _ [] rfl (by simpa using emptyN (Nat.le_refl _)) _ _ _ (F.map (fun p => p.1)) rfl (HSh4.out.below ((Below.refl _ w4).alloc (Nat.le_refl _) _)) H3.out (by omega) (by simp) ?_; intro ro rc w5 hown5 hg5)
  have e0 : nvs ([] ++ F.map (fun p => p.1)) = nvs (F.map (fun p => p.1)) := by rw [List.nil_append]
  rw [e0] at hown5
  have hs5 := hg5.size
  simp only [World.size_alloc] at hs5
  have hb5 : Below w4.heap.size w4 w5 := ((Below.refl _ w4).alloc (Nat.le_refl _) _).grown hg5 (by simp) (fun p e => by simp [Value.ownBlock] at e; omega)
  rw [Nat.zero_add] at hown5
  have HT0 : Hid (TwoT x w4 (w5.alloc (.cells #[] 37)) F ro k rc F (some ⟨w5.heap.size, 0, none⟩) 0 0 []) := by
    refine ⟨hown5.alloc _, by simpa using emptyN hb5.size, by simp, hb5.alloc hb5.size _, fun p hp => ?_⟩
    have := (hown5.lt p hp).2
    simp [Value.ownBlock]; omega
  clear hown5 hg5 hs5 hb5 e0 HSh4 H3
  go_loopw [10, 11, 12, 13, 14] (fun r10 r11 r12 _ _ wr => ∃ (na nb ca cb : Nat) (ra rb : Option Addr) (A B : List (Nv × Nod)), r10 = .slice ra na ca ∧ r11 = .slice rb nb cb ∧ r12 = .int .i64 nb ∧ TwoT x w4 wr F ra na ca A rb nb cb B) (fun r10 _ _ _ _ _ => match r10 with | .slice _ n _ => n | _ => 0)
  case atStart => exact ⟨k, 0, rc, 0, ro, _, _, [], rfl, rfl, rfl, HT0.out⟩
  case round =>
    obtain ⟨na, nb, ca, cb, ra, rb, A, B, rfl, rfl, rfl, htw⟩ := hrel
    have HTW := hide htw
    by_cases hn0 : 0 < na
    · have hdn : decide ((0 : Int) < na) = true := by simp; omega
      have hn1 : (0 : Int) < na := by omega
      have HZW := hide ((HZI.out.below E4.out).below (show Below w4.heap.size w4 wr from htw.bel))
      have hal : A.length = na := by have := htw.row.1; rw [nvs_length, List.length_map] at this; omega
      have hbl : B.length = nb := by have := htw.rob.1; rw [nvs_length, List.length_map] at this; omega
      have hpl := htw.perm.length_eq
      rw [List.length_append, List.length_map, hal, hbl, List.length_map, HFL.out] at hpl
      have hna60 : na ≤ 60 := by omega
      have hnb60 : nb ≤ 60 := by omega
      clear htw HT0 hpl hal hbl
      go_upto_if 37 with fail
      go_cut [13] from 29 to 71 (fun s15 wx => ∃ m : Int, s15 = .int .i64 m ∧ -(na : Int) < m ∧ m < na ∧ wx = wr)
      case first =>
        by_cases hj : nb < on
        · have hdj : decide ((nb : Int) < on) = true := by simpa using hj
          have hj1 : (nb : Int) < on := by omega
          obtain ⟨ob, off, rfl, hob, hcz⟩ : ∃ b off, oa = some ⟨b, off, none⟩ ∧ b < wr.heap.size ∧ ∀ i, i < on → wr.cell? ⟨b, off + i, none⟩ = some (.int .i64 (Z i)) ∧ In64 (Z i) := by
            rcases HZW.out.2 with h | h
            · omega
            · exact h
          have cz := (hcz nb hj).1
          obtain ⟨m, hm⟩ : ∃ m, (Z nb).tmod na = m := ⟨_, rfl⟩
          have hm1 : -(na : Int) < m ∧ m < na := by
            rw [← hm]
            have := Int.lt_tmod_of_pos (Z nb) hn1
            have := Int.tmod_lt_of_pos (Z nb) hn1
            omega
          have HM1 := hide hm1
          have hnz : ((na : Int) == 0) = false := by simp; omega
          have hnz2 : ¬ (na : Int) = 0 := by omega
          clear hcz hm1
          go_wp2_with fail
          go_meet
          exact ⟨m, rfl, HM1.out.1, HM1.out.2, rfl⟩
        · have hdj : decide ((nb : Int) < on) = false := by simpa using hj
          go_wp2_with fail
          go_meet
          exact ⟨0, rfl, by omega, by omega, rfl⟩
      case rest =>
        obtain ⟨m, rfl, hm1, hm2, rfl⟩ := hcut
        go_upto_if 46 with fail
        go_cut [13] from 29 to 71 (fun s15 wx => ∃ t : Nat, s15 = .int .i64 t ∧ t < na ∧ wx = wc)
        case first =>
          by_cases hm : m < 0
          · have hdm : decide (m < 0) = true := by simpa using hm
            have hwn : IntKind.i64.wrap (-m) = -m := IntWalk.i64_in _ (by omega)
            go_wp2_with fail
            go_meet
            exact ⟨(-m).toNat, by congr 1; omega, by omega, rfl⟩
          · have hdm : decide (m < 0) = false := by simpa using hm
            go_wp2_with fail
            go_meet
            exact ⟨m.toNat, by congr 1; omega, by omega, rfl⟩
        case rest =>
          obtain ⟨t, rfl, ht, rfl⟩ := hcut
          have hal : A.length = na := by have := HTW.out.row.1; rw [nvs_length, List.length_map] at this; omega
          obtain ⟨ga, ca', hv, hga, hgl⟩ := HTW.out.row.form hn0
          obtain ⟨rfl, _, rfl⟩ : ra = some ⟨ga, 0, none⟩ ∧ na = na ∧ ca = ca' := by simpa using hv
          obtain ⟨b', off', hbo, hb', hat⟩ := (sh_of_owns HTW.out.row).at hn0
          obtain ⟨rfl, rfl⟩ : ga = b' ∧ 0 = off' := by simpa using hbo
          obtain ⟨v, hvv, hat2⟩ : ∃ v, v = (gl A t).1 ∧ NodAt wc ga (t * 10) v := ⟨_, rfl, by have := hat t ht; rw [Nat.zero_add, gv_map A t (by omega)] at this; exact this⟩
          obtain ⟨d0, d1, d2, d3, d4, d5, d6, d7, d8, d9⟩ := hat2
          have HVV : Hid ((rx x (gl A t)).1 = { v with ino := xo v.ino x }) := by show _ = _; rw [hvv]; rfl
          have HAL := hide hal
          have hsz := HTW.out.bel.size
          have ht1 : (t : Int) < na := by omega
          obtain ⟨q1, q2, _⟩ := cap_owns HTW.out.row
          clear hat hbo hv hvv hal hm1 hm2
          go_wp2_with (at_builtin; refine wpList_append_nod _ rfl _ _ rfl w4.heap.size _ _ _ (B.map (fun p => p.1)) rfl ((HTW.out.rob.alloc _).alloc _) _ _ _ _ rfl (sh_one' (v := ⟨v.na, v.nn, v.nc, bits .xor .i64 v.ino x, v.kind, v.mode, v.uid, v.gid, v.da, v.dn, v.dc, v.tg, v.xa, v.xn, v.xc, v.op⟩) (by simp)) (fun h => by cases h) (by omega) (by simp; omega) ?_)
          intro rb2 cb2 w6 hown6 hg6
          have hb6 : Below w4.heap.size w4 w6 := ((HTW.out.bel.alloc hsz _).alloc (by simp; omega) _).grown hg6 (by simp; omega) (fun k e => (HTW.out.rob.lt k e).1)
          have hrA := ((HTW.out.row.alloc (.cells (Nv.cells ⟨v.na, v.nn, v.nc, bits .xor .i64 v.ino x, v.kind, v.mode, v.uid, v.gid, v.da, v.dn, v.dc, v.tg, v.xa, v.xn, v.xc, v.op⟩) 37)).alloc (.cells (Nv.cells ⟨v.na, v.nn, v.nc, bits .xor .i64 v.ino x, v.kind, v.mode, v.uid, v.gid, v.da, v.dn, v.dc, v.tg, v.xa, v.xn, v.xc, v.op⟩) 37)).kept hg6 (.inr (fun e => HTW.out.ne ga rfl e.symm))
          have HB6 := hide hb6
          have HO6 : Hid (w6.ownsRow w4.heap.size 37 10 (.slice rb2 (nb + 1) cb2) (nb + 1) (nvs (B.map (fun p => p.1) ++ [(rx x (gl A t)).1]))) := by rw [HVV.out]; exact hown6
          have hshA := sh_of_owns hrA
          have HOJ := hide (hshA.take t (by omega))
          have SHD : Hid (∀ W, Below w6.heap.size w6 W → ∀ off', (off' = (t + 1) * 10 ∨ na - (t + 1) = 0) → Sh W (some ⟨ga, off', none⟩) (na - (t + 1)) ((A.map (fun p => p.1)).drop (t + 1))) := fun W hW off' ho => by
            rcases ho with rfl | ho
            · have := (hshA.below hW).drop (t + 1) (by omega)
              rw [Nat.zero_add] at this
              exact this
            · exact ⟨by rw [List.length_drop, List.length_map, HAL.out], .inl ho⟩
          have hw1 : IntKind.i64.wrap ((t : Int) + 1) = (t : Int) + 1 := IntWalk.i64_in _ (by omega)
          have hb1 : (t : Int) + 1 ≤ na := by omega
          have hb2 : (t : Int) ≤ ca := by omega
          have hb0 : (0 : Int) ≤ (t : Int) := by omega
          have hb3 : (na : Int) ≤ ca := by omega
          have hb4 : (t : Int) + 1 ≤ ca := by omega
          have hb5 : (0 : Int) ≤ (t : Int) + 1 := by omega
          clear hown6 hg6 hb6 hrA hshA d0 d1 d2 d3 d4 d5 d6 d7 d8 d9
          by_cases hcj : ca = t + 1
          · have hij : Hid (na - (t + 1) = 0) := by show _ = _; omega
            have hb6 : (t : Int) ≤ (t : Int) + 1 := by omega
            go_wp2
            go_region_held3 (fun _ => True) (trivial)
              ((first
                | (refine step_append_nod _ (by rfl) (.tmp 62) (.tmp 65) (by rfl) w6 (by repeat (first | exact HB5.out | exact HB4.out | exact HB3.out | exact Below.refl _ _ | apply up_drew | apply up_drewN | apply up_alloc)) _ _ _ [] (by rfl) (emptyN' (by simp) (by simp)) _ _ _ ((A.map (fun p => p.1)).take t) (by rfl) (HOJ.out.below (by repeat (first | exact HB5.out | exact HB4.out | exact HB3.out | exact Below.refl _ _ | apply up_drew | apply up_drewN | apply up_alloc))) (fun h => by cases h) t (by omega) _ rfl (by omega) ?_; intro a7 c7 w7 hown7 hg7 hb7; have HO7 := hide hown7; have HB3 := hide hb7; clear hown7 hg7 hb7)
                | (refine step_append_nod _ (by rfl) (.tmp 66) (.tmp 70) (by rfl) w6 (by repeat (first | exact HB5.out | exact HB4.out | exact HB3.out | exact Below.refl _ _ | apply up_drew | apply up_drewN | apply up_alloc)) _ _ _ ((A.map (fun p => p.1)).take t) (by rfl) (by exact HO7.out) _ _ _ ((A.map (fun p => p.1)).drop (t + 1)) (by rfl) (SHD.out _ (by repeat (first | exact HB5.out | exact HB4.out | exact HB3.out | exact Below.refl _ _ | apply up_drew | apply up_drewN | apply up_alloc)) _ (by first | exact .inl rfl | exact .inr hij.out)) (fun h => by cases h) (na - 1) (by omega) _ rfl (by omega) ?_; intro a8 c8 w8 hown8 hg8 hb8; have HO8 := hide hown8; have HB4 := hide hb8; clear hown8 hg8 hb8)))
            all_goals (
              have HNX := hide (HTW.out.next HAL.out ht HO6.out HB6.out HO8.out HB4.out)
              clear SHD HOJ HO6 HB6 HO8 HB4 HO7 HB3
              go_wp2
              exact ⟨⟨na - 1, nb + 1, c8, cb2, a8, rb2, _, _, rfl, rfl, by go_num, HNX.out⟩, by show na - 1 < na; omega⟩)
          · go_wp2
            go_region_held3 (fun _ => True) (trivial)
              ((first
                | (refine step_append_nod _ (by rfl) (.tmp 62) (.tmp 65) (by rfl) w6 (by repeat (first | exact HB5.out | exact HB4.out | exact HB3.out | exact Below.refl _ _ | apply up_drew | apply up_drewN | apply up_alloc)) _ _ _ [] (by rfl) (emptyN' (by simp) (by simp)) _ _ _ ((A.map (fun p => p.1)).take t) (by rfl) (HOJ.out.below (by repeat (first | exact HB5.out | exact HB4.out | exact HB3.out | exact Below.refl _ _ | apply up_drew | apply up_drewN | apply up_alloc))) (fun h => by cases h) t (by omega) _ rfl (by omega) ?_; intro a7 c7 w7 hown7 hg7 hb7; have HO7 := hide hown7; have HB3 := hide hb7; clear hown7 hg7 hb7)
                | (refine step_append_nod _ (by rfl) (.tmp 66) (.tmp 70) (by rfl) w6 (by repeat (first | exact HB5.out | exact HB4.out | exact HB3.out | exact Below.refl _ _ | apply up_drew | apply up_drewN | apply up_alloc)) _ _ _ ((A.map (fun p => p.1)).take t) (by rfl) (by exact HO7.out) _ _ _ ((A.map (fun p => p.1)).drop (t + 1)) (by rfl) (SHD.out _ (by repeat (first | exact HB5.out | exact HB4.out | exact HB3.out | exact Below.refl _ _ | apply up_drew | apply up_drewN | apply up_alloc)) _ (by first | exact .inl rfl | exact .inr hij.out)) (fun h => by cases h) (na - 1) (by omega) _ rfl (by omega) ?_; intro a8 c8 w8 hown8 hg8 hb8; have HO8 := hide hown8; have HB4 := hide hb8; clear hown8 hg8 hb8)))
            all_goals (
              have HNX := hide (HTW.out.next HAL.out ht HO6.out HB6.out HO8.out HB4.out)
              clear SHD HOJ HO6 HB6 HO8 HB4 HO7 HB3
              go_wp2
              exact ⟨⟨na - 1, nb + 1, c8, cb2, a8, rb2, _, _, rfl, rfl, by go_num, HNX.out⟩, by show na - 1 < na; omega⟩)
    · obtain rfl : na = 0 := by omega
      have hal : A.length = 0 := by have := htw.row.1; rw [nvs_length, List.length_map] at this; omega
      have hA : A = [] := List.eq_nil_of_length_eq_zero (by omega)
      have hbl : B.length = nb := by have := htw.rob.1; rw [nvs_length, List.length_map] at this; omega
      have hpm : B.Perm (F.map (rx x)) := by have := htw.perm; rw [hA] at this; exact this
      have hnb : nb = k := by rw [← hbl, hpm.length_eq, List.length_map]; exact HFL.out
      have hnW : Ns wr ao k F := HN4.out.below htw.bel
      have hrB : ∀ p ∈ B, Rep wr p.1 p.2 := fun p hp => by
        obtain ⟨q, hq, rfl⟩ := List.mem_map.1 (hpm.mem_iff.1 hp)
        exact rep_rx (hnW.2.1 q hq) x
      have hpn : (nds B).Perm ((nds F).map (ri (fun z => xo z x))) := by rw [← nds_rx x F hnW.2.1]; exact hpm.map _
      have hinj : InjOn (fun z => xo z x) (nds F) := inj_xo x F hnW.2.1
      have hNB := (sh_of_owns htw.rob).ns hrB
      have HCK := hide (again_check hinj hpn)
      have HCN := hide (fun r (h : IsCanon (nds F) r) => again_canon hinj hpn h)
      have E5 := hide (E4.out.trans (htw.bel.mono E4.out.size))
      obtain ⟨p1, p2, _⟩ := cap_owns htw.rob
      have HB2 := hide (Build_few rb nb cb B wr hNB p1 p2 (by omega) (HW.out.below E5.out HW.out.pos))
      have HBx2 := hide (HBx.out.below htw.bel)
      clear htw HT0 hal hA hbl hpm hnW hrB hpn hinj HTW hnb hn0 hNB HBx
      go_wp2_with (go_at_call 10; refine HB2.out.mono ?_)
      rintro e w7 ⟨hb7, hAns⟩
      obtain ⟨yo, yn, yc, zf, rfl, hBy, hee⟩ : ∃ yo yn yc zf, e = .returned (.tuple #[.slice yo yn yc, .int .i64 zf]) ∧ Bs w7 yo yn IM ∧ (ze == 0) = (zf == 0) := by
        rcases hAns with ⟨h, rfl⟩ | ⟨h0, l2, own2, ib, hc2, ho2, ht2, rfl, hib, hB⟩
        · rcases HDec.out with ⟨d1, rfl, rfl⟩ | ⟨d1, _⟩
          · refine ⟨none, 0, 0, _, rfl, ⟨rfl, fun i => by simp [g], .inl rfl⟩, ?_⟩
            rw [beq_eq_false_iff_ne.2 d1, beq_eq_false_iff_ne.2 h]
          · exact absurd (HCK.out.2 d1) h
        · rcases HDec.out with ⟨d1, _⟩ | ⟨d1, rfl, l, own, hc, ho, rfl⟩
          · exact absurd (HCK.out.1 h0) d1
          · have e1 : l = l2 := canon_one (check_zero h0).2.2.2.1 (HCN.out l hc) hc2
            subst e1
            have e2 := own_one ho ho2
            subst e2
            exact ⟨_, _, _, _, rfl, hB, rfl⟩
      have s1 : (convert 25 9 (.slice xo' xn xc)).run Tryz.prog w7 = .ok (.string (strOfNums IM)) w7 := str_any (HBx2.out.below hb7) xc
      have s2 : (convert 25 9 (.slice yo yn yc)).run Tryz.prog w7 = .ok (.string (strOfNums IM)) w7 := str_any hBy yc
      have g2 : ((strOfNums IM).toList == (strOfNums IM).toList) = true := by simp
      have E6 := hide (E5.out.trans (hb7.mono E5.out.size))
      generalize strOfNums IM = sI at *
      clear hAns hb7 hBy HBx2 HB2 HDec HCK HCN
      cases hz : (zf == 0) with
      | true =>
        rw [hz] at hee
        go_wp2
        go_ret
        exact ⟨rfl, E6.out⟩
      | false =>
        rw [hz] at hee
        go_wp2
        go_ret
        exact ⟨rfl, E6.out⟩
end Go.Proofs.YtchcejjoncihkaaGreatDoor

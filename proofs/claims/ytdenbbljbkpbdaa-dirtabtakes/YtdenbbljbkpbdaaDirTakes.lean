/- Layer 10: DirtabTakes: any bytes are read as a list, or refused, as the document says. -/
import Derived.Test.YtdenbbljbkpbdaaDirShown
import Derived.Test.YtdenbbljbkpbdaaDirRefTake
namespace Go.Proofs.Ytdenbbljbkpbdaa
set_option linter.unusedVariables false
set_option maxRecDepth 100000
open Go.RowKit Go.Maps
open Lz (g)
open Nam Cur Cap Dir

namespace Dir
/-- What Take answers, read by its parts. -/
theorem dtakes_parts {zs : List Int} {w w' : World} {r : Ending} (h : DTakes zs w r w') : ∃ ao n c L, r = .returned (.tuple #[.slice ao n c, .int .i64 (if tk zs = true then 0 else 2)]) ∧ Es w' ao n L ∧ L = (if tk zs = true then (par zs).1 else []) ∧ n ≤ c ∧ c ≤ 9223372036854775807 ∧ Below w.heap.size w w' := by
  rcases h with ⟨h1, ao, c, rfl, h2, h3, h4, h5⟩ | ⟨h1, rfl, h2⟩
  · exact ⟨ao, _, c, (par zs).1, by rw [if_pos h1], h2, by rw [if_pos h1], h3, h4, h5⟩
  · exact ⟨none, 0, 0, [], by rw [h1, if_neg (by simp)], Es.nil _ _, by rw [h1, if_neg (by simp)], by omega, by omega, h2⟩
end Dir
set_option maxHeartbeats 2000000 in
theorem takes_walk (a0 : Option Addr) (len0 cap0 : Nat) (z0' : List Int) (w : World) (f0 : RowB w a0 len0 cap0 z0') :
    Calls Try.prog 4 #[.slice a0 len0 cap0] w fun e w' => e = .returned (.bool true) ∧ Below w.heap.size w w' := by
  obtain ⟨hbs, hlc, hcm, hby, hnil⟩ := f0.bs (min len0 3000) (by omega)
  have HBS := hide hbs
  have HN := hide hnil
  clear f0 hbs hby hnil
  generalize z0'.take (min len0 3000) = zs at HBS
  go_enter Try.func4, Try.ntmps4
  go_wp2_with fail
  refine (shown_any w).mono ?_
  rintro r ws ⟨rfl, bs0⟩
  have HB0 := hide bs0
  clear bs0
  go_upto_if 12 with fail
  go_cut [0] from 13 to 14 (fun s0 wx => s0 = .slice a0 (min len0 3000) cap0 ∧ wx = ws)
  case first =>
    by_cases h3 : 3000 < len0
    · have e3 : min len0 3000 = 3000 := by omega
      go_wp2_with fail
      go_meet
      case rel => exact ⟨by rw [e3], rfl⟩
    · have e3 : min len0 3000 = len0 := by omega
      go_wp2_with fail
      go_meet
      case rel => exact ⟨by rw [e3], rfl⟩
  case rest =>
  obtain ⟨rfl, hwc⟩ := hcut
  obtain rfl := hwc.symm
  have hm2 : min len0 3000 ≤ cap0 := by omega
  have hm1 : min len0 3000 ≤ 3000 := by omega
  generalize min len0 3000 = m at *
  have hk8 : 0 + m ≤ 100000000 := by omega
  have HS3 := hide (HBS.out.below HB0.out)
  have HO := hide (emptyB (w := ws) (Nat.le_refl _))
  have HSrc : Hid (Bs (ws.alloc (.cells #[] 5)) a0 m zs) := HS3.out.alloc _
  clear HBS
  go_wp2_with (first
    | (at_builtin
       refine wpList_append_bs _ (by rfl) (.tmp 16) (.tmp 17) (by rfl) ws.heap.size _ 0 0 [] (by rfl) HO.out a0 m cap0 zs (by rfl) HSrc.out HN.out hk8 (by simp) ?_
       intro ao4 c4 w4 ho4 hg4
       have b4 : Below ws.heap.size ws w4 := ((Below.refl _ ws).alloc (Nat.le_refl _) _).grown hg4 (by simp) (fun kk e => (HO.out.lt kk e).1)
       rw [Nat.zero_add, List.nil_append] at ho4
       have HB4 := hide (HB0.out.trans (b4.mono HB0.out.size))
       have HS4 := hide (bs_of_owns ho4 HS3.out.bytes)
       have hcap := cap_own ho4
       have HA4 := hide (HS3.out.below b4)
       have HC4 := hide hcap
       clear ho4 hg4 b4 hcap))
  have HTk := hide (fun w5 (h : Bs w5 a0 m zs) => refDTake_any m cap0 a0 zs w5 h hm2 HN.out hm1)
  obtain ⟨t, ht⟩ : ∃ t, t = tk zs := ⟨_, rfl⟩
  clear HO HSrc HS3
  refine (dTake_any m c4 ao4 zs w4 HS4.out HC4.out.1 HC4.out.2.2 (by omega)).mono ?_
  rintro r w5 hT5
  obtain ⟨a5, n5, c5, L5, rfl, hE5, hL5, hn5, hc5, b5⟩ := dtakes_parts hT5
  have hlen5 : n5 ≤ 1000000 := by
    have h1 := hE5.1
    have h2 := par_length zs HS4.out.bytes
    have h3 := HS4.out.1
    have h4 : L5.length ≤ (par zs).1.length := by rw [hL5]; split <;> simp
    omega
  have HE5 := hide hE5
  have HL5 := hide hL5
  have HB5 := hide (HB4.out.trans (b5.mono HB4.out.size))
  have HA5 := hide (HA4.out.below b5)
  rw [← ht] at HL5 ⊢
  clear hT5 hE5 hL5 b5 HA4
  generalize hx : (if t = true then (0 : Int) else 2) = x
  go_wp2_with fail
  refine (HTk.out w5 HA5.out).mono ?_
  rintro r w6 hT6
  obtain ⟨a6, n6, c6, L6, rfl, hE6, hL6, hn6, hc6, b6⟩ := dtakes_parts hT6
  have HE6 := hide hE6
  have HB6 := hide (HB5.out.trans (b6.mono HB5.out.size))
  have HE5' := hide (HE5.out.below b6)
  rw [← ht, hx]
  rw [← ht, ← HL5.out] at hL6
  have hlen6 : n6 ≤ 1000000 := by
    have h1 := hE6.1
    have h2 := HE5.out.1
    rw [hL6] at h1
    omega
  subst hL6
  clear hT6 hE6 b6 HTk ht hx
  go_wp2_with fail
  refine (same_any a5 a6 n5 c5 n6 c6 L6 L6 w6 HE5'.out HE6.out hlen5 hlen6).mono ?_
  rintro r w7 ⟨rfl, q, rfl⟩
  have HW7 := hide (below_drewN HB6.out q)
  rw [sameL_refl]
  generalize w6.drewN q = w7 at *
  go_wp2
  go_ret
  exact ⟨rfl, HW7.out⟩
end Go.Proofs.Ytdenbbljbkpbdaa

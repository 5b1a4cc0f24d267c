/- Layer 13: Add, by the program. -/
import Derived.Test.YtgmkldfjbjnkcaaFrgPack
import Derived.Deep.CutBlock
import Derived.Deep.CutRange
namespace Go.Proofs.Ytgmkldfjbjnkcaa
set_option linter.unusedVariables false
open Go.RowKit Go.Maps
open Lz (g)
open Frm Mtr

namespace Frg
theorem room_app (K : Bl) (t : List Int) : room (szs (K ++ [t])) = 128 - (t.length : Int) := by
  unfold room
  rw [if_neg (by rw [szs_length]; simp), szs_length, szs_at _ _ (by simp)]
  simp
theorem room_nil : room (szs []) = 0 := rfl
/-- Where a tail comes to stand. -/
theorem add_good {L : Bl} {z : List Int} (h : ¬ (z.length < 1 ∨ 128 ≤ z.length)) : ∃ K t, add L z = (K ++ [t ++ z], K.length + 1, t.length) ∧ L.flatten = (K ++ [t]).flatten ∧ t.length + z.length ≤ 128 ∧
    ((L = K ∧ t = [] ∧ room (szs L) < (z.length : Int)) ∨ (L = K ++ [t] ∧ (z.length : Int) ≤ room (szs L))) := by
  rcases add_cases L z with ⟨h1, e⟩ | ⟨h1, h2, e⟩ | ⟨h1, K, t, rfl, h2, e⟩
  · exact absurd h1 h
  · refine ⟨L, [], by rw [e]; simp, by simp, by simp; omega, .inl ⟨rfl, rfl, ?_⟩⟩
    rcases h2 with rfl | ⟨K, t, rfl, h3⟩
    · rw [room_nil]; omega
    · rw [room_app]; omega
  · exact ⟨K, t, e, rfl, h2, .inr ⟨rfl, by rw [room_app]; omega⟩⟩
theorem szs_set (K : Bl) (t z : List Int) (n : Nat) (h : z.length = n) : (szs (K ++ [t])).set K.length ((t.length : Int) + n) = szs (K ++ [t ++ z]) := by
  rw [szs_append, szs_append, szs_one, szs_one, List.set_append_right _ _ (by rw [szs_length]; exact Nat.le_refl _), szs_length, Nat.sub_self]
  simp [h]
theorem szs_bd {L : Bl} (h : Ok L) : ∀ x ∈ szs L, 0 ≤ x ∧ x ≤ 128 := fun x hx => by
  unfold szs at hx
  rw [List.mem_map] at hx
  obtain ⟨b, hb, rfl⟩ := hx
  have := h b hb
  omega
theorem szs_last (K : Bl) (t : List Int) : g (szs (K ++ [t])) K.length = (t.length : Int) := by
  rw [szs_at _ _ (by simp)]; simp
end Frg
open Frg
theorem PkQ.last {w : World} {p rn rc n1 sc sb kn x : Nat} {ro : Option Addr} {O : Nat → Prop} {R : List Int} {K : Bl} {t : List Int} (h : PkQ w p O R (szs (K ++ [t])) ro rn rc (some ⟨sb, 0, none⟩) n1 sc) (h1 : K.length = kn) (h2 : kn + 1 = n1) (h3 : t.length = x) :
    w.cell? ⟨sb, kn, none⟩ = some (.int .i64 (x : Int)) ∧ w.frozen? ⟨sb, kn, none⟩ = false := by
  obtain ⟨b, off, e, _, hc⟩ := (Zs.of h.s).at (by omega)
  obtain ⟨rfl, rfl⟩ : sb = b ∧ 0 = off := by simpa using e
  have := hc kn (by omega)
  rw [Nat.zero_add] at this
  exact ⟨by rw [this, ← h1, szs_last, h3], h.s.frozenAt kn⟩
/-- What Add answers, and leaves. -/
def FAdds (L : Bl) (z : List Int) (p : Nat) (O : Nat → Prop) (w w' : World) (e : Ending) : Prop :=
  e = .returned (.tuple #[.int .i64 ((add L z).2.1 : Nat), .int .i64 ((add L z).2.2 : Nat)]) ∧ ∃ O', PkP w' p O' (add L z).1 ∧ Fr O w w' ∧ Gr O O' w
set_option maxRecDepth 100000 in
set_option maxHeartbeats 1000000 in
theorem fAdd_any (p n c : Nat) (O : Nat → Prop) (ao : Option Addr) (L : Bl) (z : List Int) (w : World) (h : PkP w p O L) (hk : Ok L) (hb : Bs w ao n z) (hnil : ao = none → c = 0) (hno : ∀ a, ao = some a → 0 < n → ¬ O a.block) (hL : L.length ≤ 100000) (hR : L.flatten.length ≤ 10000000) (hn : n ≤ 9223372036854775807) :
    Calls Try.prog 10 #[.pointer (some ⟨p, 0, none⟩), .slice ao n c] w fun e w' => FAdds L z p O w w' e := by
  have hz := hb.1
  by_cases hbad : z.length < 1 ∨ 128 ≤ z.length
  · have HA : Hid (FAdds L z p O w w (.returned (.tuple #[.int .i64 0, .int .i64 0]))) := by
      show FAdds L z p O w w _
      unfold FAdds
      rw [add_bad hbad]
      exact ⟨rfl, O, h, Fr.refl _ _, Gr.refl _ _⟩
    have hc : n = 0 ∨ (((n : Int) == 0) = false ∧ (128 : Int) ≤ (n : Int)) := by
      by_cases e : n = 0
      · exact .inl e
      · exact .inr ⟨by simp; omega, by omega⟩
    clear h hb hz hbad
    rcases hc with rfl | ⟨h1, h2⟩
    all_goals
      go_enter Try.func10, Try.ntmps10
      go_wp2
      go_ret2
      exact HA.out
  · obtain ⟨ro, rn, rc, so, sn, sc, hq⟩ := h
    obtain ⟨hlR, hlS⟩ := hq.len
    rw [szs_length] at hlS
    obtain ⟨K, t, hadd, hflat, htz, hcase⟩ := add_good (L := L) hbad
    have HRm := hide (room_any p w O L.flatten (szs L) ro so rn rc sn sc hq (by omega) (szs_bd hk))
    have HQ := hide hq
    have h0' : ((n : Int) == 0) = false := by simp; omega
    have h128 : ¬ (128 : Int) ≤ (n : Int) := by omega
    have h128' : decide ((128 : Int) ≤ (n : Int)) = false := by simp; omega
    have HB := hide hb
    have HN := hide hnil
    have HNo := hide hno
    have HAdd := hide hadd
    have HFl := hide hflat
    obtain ⟨kn, hkn⟩ : ∃ kn, K.length = kn := ⟨_, rfl⟩
    obtain ⟨n1, hn1⟩ : ∃ n1, kn + 1 = n1 := ⟨_, rfl⟩
    obtain ⟨x, hx⟩ : ∃ x, t.length = x := ⟨_, rfl⟩
    have HKN := hide hkn
    have HX := hide hx
    have hkl : kn ≤ 100000 := by
      rcases hcase with ⟨e, _⟩ | ⟨e, _⟩
      · rw [e] at hL; omega
      · rw [e] at hL; simp at hL; omega
    have htb : x + n ≤ 128 := by omega
    have HC : Hid ((L = K ∧ t = [] ∧ room (szs L) < (n : Int)) ∨ (L = K ++ [t] ∧ (n : Int) ≤ room (szs L))) := by rw [← hz]; exact hcase
    obtain ⟨rm, hrm⟩ : ∃ rm, room (szs L) = rm := ⟨_, rfl⟩
    rw [hrm] at HRm HC
    rw [hlR] at hR
    have hns : n1 ≤ 100001 := by omega
    have e1 : IntKind.i64.wrap ((n1 : Int) - 1) = (kn : Int) := by rw [IntKind.wrap_i64]; omega
    have e2 : IntKind.i64.wrap ((x : Int) + (n : Int)) = (x : Int) + n := by rw [IntKind.wrap_i64]; omega
    have e3 : (kn : Int) < (n1 : Int) := by omega
    have e4 : IntKind.i64.wrap ((kn : Int) + 1) = (kn : Int) + 1 := by rw [IntKind.wrap_i64]; omega
    have hzn : z.length = n := hz
    have HZ := hide hzn
    have HN1 := hide hn1
    have HSN := hide hlS
    clear hq hb hnil hno hz hbad hadd hflat hkn hn1 hx hcase hrm hlR hk hzn hlS hL
    go_enter Try.func10, Try.ntmps10
    go_upto_if 19 with (first | (go_at_call 17; refine HRm.out.mono ?_; rintro r w1 ⟨rfl, q, rfl⟩) | fail)
    have HQ1 := hide (HQ.out.fr ((Fr.refl (fun _ => False) w).drewN q) (fun _ _ h => h))
    have HF1 := hide ((Fr.refl O w).drewN q)
    have HB1 : Hid (Bs (w.drewN q) ao n z) := HB.out
    obtain ⟨w1, hw1⟩ : ∃ w1, w1 = w.drewN q := ⟨_, rfl⟩
    rw [← hw1] at HQ1 HF1 HB1 ⊢
    have hs1 : w.heap.size ≤ w1.heap.size := HF1.out.size
    clear hw1 HQ HRm HB
    go_cut [19] from 20 to 28 (fun s19 wx => ∃ O2 sb sc2, PkQ wx p O2 L.flatten (szs (K ++ [t])) ro rn rc (some ⟨sb, 0, none⟩) n1 sc2 ∧ Fr O w wx ∧ Gr O O2 w ∧ Bs wx ao n z)
    case first =>
      have c1 := HQ1.out.pk.c1
      rcases HC.out with ⟨hLK, ht0, hlt⟩ | ⟨hLK, hge⟩
      · have HE : Hid (szs L ++ [0] = szs (K ++ [t]) ∧ sn + 1 = n1) := ⟨by rw [hLK, ht0, szs_append]; rfl, by rw [← HSN.out, hLK, HKN.out, HN1.out]⟩
        have HO1 := hide (HQ1.out.s.alloc (.cells #[.int .i64 0] 3))
        have hsn : sn ≤ 100000 := by have := HE.out.2; omega
        clear hLK ht0 HC
        go_wp2_with (first
          | (at_builtin
             refine wpList_append_num_at _ rfl (.tmp 24) (.tmp 25) rfl 0 so sn sc _ rfl HO1.out w1.heap.size 0 rfl (by simp) (by omega) (Nat.zero_le _) ?_
             intro b' c' w2 ho2 hg2 hl2
             have HX2 := hide (HQ1.out.push ho2 hg2 hl2)
             have HB2 : Hid (Bs w2 ao n z) := (HB1.out.below (below_one _ _)).fr (Fr.of_grown (S := fun k => (Value.slice so sn sc).ownBlock = some k) hg2 (fun k hk => hk)) (fun a ha h0 hx => HNo.out a ha h0 (HQ1.out.osiz _ hx))
             have c21 := HX2.out.1.c1
             have f21 := HX2.out.1.f 1
             clear ho2 hg2 hl2))
        go_meet
        case rel =>
          obtain ⟨_, O2, k1, k2, k3⟩ := HX2.out
          rw [HE.out.1, HE.out.2] at k1
          rw [HE.out.2] at k2 ⊢
          refine ⟨O2, b', c', k1, HF1.out.then k2, fun k hk => (k3 k hk).imp id (fun h => Nat.le_trans hs1 h), HB2.out.fr ((Fr.refl (One p) _).set (p := ⟨p, 1, none⟩) _ (fun _ => rfl)) (fun a ha h0 hx => HNo.out a ha h0 ?_)⟩
          rw [show a.block = p from hx]; exact HQ1.out.op
      · have hge' : decide (rm < (n : Int)) = false := by simp; omega
        have HE : Hid (szs L = szs (K ++ [t]) ∧ sn = n1) := ⟨by rw [hLK], by rw [← HSN.out, hLK, List.length_append, HKN.out, ← HN1.out]; rfl⟩
        clear hLK HC
        go_wp2
        go_meet
        case rel =>
          have hq := HQ1.out
          rw [HE.out.1, HE.out.2] at hq
          obtain ⟨b, c', hv, _, hlt⟩ := hq.s.form (by omega)
          obtain ⟨rfl, rfl⟩ : so = some ⟨b, 0, none⟩ ∧ sc = c' := by simpa using hv
          exact ⟨O, b, sc, hq, HF1.out, Gr.refl _ _, HB1.out⟩
    case rest =>
      obtain ⟨O2, sb, sc2, hq2, hF2, hG2, hB2⟩ := hcut
      have HQ2 := hide hq2
      have HF2 := hide hF2
      have HG2 := hide hG2
      have HB2 := hide hB2
      have c1 := hq2.pk.c1
      have c0 := hq2.pk.c0
      have hcx := (hq2.last HKN.out HN1.out HX.out).1
      clear hq2 hF2 hG2 hB2 HC HF1 HQ1 HB1
      go_wp2_with (first
        | (at_builtin
           refine wpList_append_rw _ rfl (.tmp 46) (.tmp 47) rfl 0 ro rn rc L.flatten rfl HQ2.out.r ao n c z rfl HB2.out HN.out (by omega) (Nat.zero_le _) ?_
           intro ao3 c3 w3 hA hg hl
           have HX3 := hide (HQ2.out.more hA hg hl)
           have c03 := HX3.out.1.c0
           have f03 := HX3.out.1.f 0
           obtain ⟨_, O4, hq4, hF4, hG4⟩ := HX3.out
           have HQ4 := hide hq4
           have HF4 := hide hF4
           have HG4 := hide hG4
           have c14 := hq4.pk.c1
           have hcx4 := (hq4.last HKN.out HN1.out HX.out).1
           have hfx4 := (hq4.last HKN.out HN1.out HX.out).2
           clear hA hg hl hq4 hF4 hG4))
      go_ret2
      show FAdds L z p O w _ _
      obtain ⟨k1, k2⟩ := HQ4.out.turn kn ((x : Int) + n) (by have := HN1.out; omega)
      have e5 : (szs (K ++ [t])).set kn ((x : Int) + n) = szs (K ++ [t ++ z]) := by rw [← HKN.out, ← HX.out]; exact szs_set K t z n HZ.out
      have e6 : L.flatten ++ z = (K ++ [t ++ z]).flatten := by rw [HFl.out]; simp
      rw [e5, e6] at k1
      unfold FAdds
      rw [HAdd.out, HKN.out, HX.out]
      refine ⟨rfl, O4, ⟨_, _, _, _, _, _, k1⟩, (HF2.out.gr HG2.out HF4.out).gr (HG2.out.trans HG4.out HF2.out.size) k2, HG2.out.trans HG4.out HF2.out.size⟩
end Go.Proofs.Ytgmkldfjbjnkcaa

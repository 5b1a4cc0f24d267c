/- Layer 7: the reference's Canon; nodes in order are so in one way. -/
import Derived.Test.YtppmekmaclolbaaTreRefNum
import Derived.Test.YtppmekmaclolbaaTreRefSort
import Derived.Test.YtppmekmaclolbaaTreCanon
namespace Go.Proofs.Ytppmekmaclolbaa
set_option linter.unusedVariables false
open Go.RowKit Go.Maps
open Nam Tre

namespace Tre
theorem names_inj : ∀ {l : List Nod}, (l.map Nod.names).Nodup → ∀ a ∈ l, ∀ b ∈ l, a.names = b.names → a = b
  | [], _, a, ha, _, _, _ => by simp at ha
  | n :: r, h, a, ha, b, hb, e => by
    rw [List.map_cons, List.nodup_cons] at h
    rcases List.mem_cons.1 ha with h1 | h1 <;> rcases List.mem_cons.1 hb with h2 | h2
    · rw [h1, h2]
    · exact absurd (List.mem_map.2 ⟨b, h2, by rw [← e, h1]⟩) h.1
    · exact absurd (List.mem_map.2 ⟨a, h1, by rw [e, h2]⟩) h.1
    · exact names_inj h.2 a h1 b h2 e
theorem order_one {l s t : List Nod} (hd : (l.map Nod.names).Nodup) (h1 : s.Perm l) (h2 : t.Perm l) (o1 : s.Pairwise (fun p q => ltn q p = false)) (o2 : t.Pairwise (fun p q => ltn q p = false)) : s = t := by
  refine List.Perm.eq_of_pairwise ?_ o1 o2 (h1.trans h2.symm)
  intro a b ha hb hab hba
  refine names_inj hd a (h1.mem_iff.1 ha) b (h2.mem_iff.1 hb) ?_
  by_cases e : a.names = b.names
  · exact e
  · rcases less_total (nm a.names) (nm b.names) (fun q => e (nm_inj q)) with q | q
    · have : ltn a b = true := q
      rw [this] at hba; cases hba
    · have : ltn b a = true := q
      rw [this] at hab; cases hab
theorem canon_one {l r t : List Nod} (hd : (l.map Nod.names).Nodup) (h1 : IsCanon l r) (h2 : IsCanon l t) : r = t := by
  obtain ⟨s, p1, o1, rfl⟩ := h1
  obtain ⟨u, p2, o2, rfl⟩ := h2
  rw [order_one hd p1 p2 o1 o2]
end Tre
theorem rep_rn {w : World} {p : Nv × Nod} (h : Rep w p.1 p.2) (z : Nat) (hz : z ≤ 1000000) : Rep w (rn p z).1 (rn p z).2 :=
  { h with ino := rfl, in64 := (by show (Lit.int .i64 (z : Int)).wf = true; exact WalkArith.wf_i64 (by omega)) }
theorem nbl_rep {w : World} {L : List (Nv × Nod)} {n : Nat} (hn : n ≤ 1000000) (hL : L.length = n) (h : ∀ p ∈ L, Rep w p.1 p.2) : ∀ p ∈ nbl L n, Rep w p.1 p.2 := by
  intro p hp
  obtain ⟨j, hj, rfl⟩ := List.getElem_of_mem hp
  rw [nbl_length L n (by omega)] at hj
  have := nbl_get L n j (by omega) hj
  rw [gl_lt _ _ (by rw [nbl_length L n (by omega)]; exact hj)] at this
  rw [this]
  have hnb := (nno_range (ikeys_lit (nds L)) (i := j) (by rw [ikeys_length, nds_length]; omega)).2
  have hnl := nst_le (ikeys (nds L)) (j + 1)
  exact rep_rn (h _ (gl_mem L j (by omega))) _ (by omega)
set_option maxRecDepth 100000 in
theorem refCanon_ok (a : Option Addr) (n c : Nat) (L : List (Nv × Nod)) (w : World) (hl : Ns w a n L) (hc : n ≤ c) (hcm : c ≤ 9223372036854775807) (h20 : ∀ p ∈ L, p.2.names.length ≤ 1000000) (h0 : check (nds L) = 0) :
    Calls Try.prog 14 #[.slice a n c] w fun e w' => ∃ ao c' L', e = .returned (.tuple #[.slice ao n c', .int .i64 0]) ∧ Ns w' ao n L' ∧ IsCanon (nds L) (nds L') ∧ Below w.heap.size w w' := by
  have hn : n ≤ 1024 := by have := (check_zero h0).1; rw [nds_length, hl.1] at this; exact this
  have HC := hide (refCheck_any a n c L w hl hc hcm h20)
  rw [h0] at HC
  have HL := hide hl
  have H20 := hide h20
  clear hl h0 h20
  go_enter Try.func14, Try.ntmps14
  go_wp2_with (go_at_call 12; refine HC.out.mono ?_)
  rintro e w1 ⟨rfl, hb1⟩
  have E1 := hide hb1
  have HS := hide (refSorted_any a n c L w1 (HL.out.below hb1) hc hcm (by omega) H20.out)
  clear hb1 HC
  go_wp2_with (go_at_call 42; refine HS.out.mono ?_)
  rintro e w2 ⟨ao, c', C, rfl, hso⟩
  have hp : C.Perm L := by have := hso.perm; rw [List.take_of_length_le (by rw [HL.out.1]; omega)] at this; exact this
  have hcl : C.length = n := by rw [hp.length_eq]; exact HL.out.1
  have hrep : ∀ p ∈ C, Rep w2 p.1 p.2 := fun p hpm => ((HL.out.below E1.out).below hso.bel).2.1 p (hp.mem_iff.1 hpm)
  obtain ⟨q1, q2, _⟩ := cap_owns hso.row
  have HN := hide (refNumbered_any ao n c' C w2 ((sh_of_owns hso.row).ns hrep) q1 q2 (by omega))
  have E2 := hide (E1.out.trans (hso.bel.mono E1.out.size))
  have HIC : Hid (IsCanon (nds L) (nds (nbl C n))) := by
    refine ⟨nds C, hp.map _, ?_, ?_⟩
    · rw [nds, List.pairwise_map]; exact hso.srt
    · rw [← hcl]; exact nbl_end C
  have HRP := hide hrep
  have HCL := hide hcl
  clear hso hp hcl hrep HS q1 q2
  go_wp2_with (go_at_call 41; refine HN.out.mono ?_)
  rintro e w3 ⟨ao3, c3, rfl, hnr⟩
  have E3 := hide (E2.out.trans (hnr.bel.mono E2.out.size))
  have HNS := hide ((sh_of_owns hnr.row).ns (nbl_rep (by omega) HCL.out (fun p hp => (HRP.out p hp).below hnr.bel)))
  clear hnr HN
  go_wp2
  go_ret2
  exact ⟨ao3, c3, nbl C n, rfl, HNS.out, HIC.out, E3.out⟩
theorem refCanon_no (a : Option Addr) (n c : Nat) (L : List (Nv × Nod)) (w : World) (hl : Ns w a n L) (hc : n ≤ c) (hcm : c ≤ 9223372036854775807) (h20 : ∀ p ∈ L, p.2.names.length ≤ 1000000) (z : Int) (hz : check (nds L) = z) (h0 : z ≠ 0) :
    Calls Try.prog 14 #[.slice a n c] w fun e w' => e = .returned (.tuple #[.slice none 0 0, .int .i64 z]) ∧ Below w.heap.size w w' := by
  have HC := hide (refCheck_any a n c L w hl hc hcm h20)
  rw [hz] at HC
  have h1 : (z != 0) = true := by simpa using h0
  clear hl hz h20
  go_enter Try.func14, Try.ntmps14
  go_wp2_with (go_at_call 12; refine HC.out.mono ?_; rintro e w1 ⟨rfl, hb1⟩)
  go_ret2
  exact ⟨rfl, hb1⟩
end Go.Proofs.Ytppmekmaclolbaa

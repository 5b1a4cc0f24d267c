/- Layer 7: the reference's Same, at two rows that are the same. -/
import Derived.Test.YtppmekmaclolbaaTreRefCheck
import Derived.Test.YtppmekmaclolbaaTreRefAlike
namespace Go.Proofs.Ytppmekmaclolbaa
set_option linter.unusedVariables false
open Go.RowKit Go.Maps
open Nam Tre

/-- The cells of two nodes, of two rows. -/
theorem two_rows {w : World} {b1 b2 o1 o2 : Nat} {v u : Nv} (h0 : NodAt w b1 o1 v) (h1 : NodAt w b2 o2 u) : w.cell? ⟨b1, o1, none⟩ = some (.slice v.na v.nn v.nc) ∧ w.cell? ⟨b1, o1 + 1, none⟩ = some (.int .i64 v.ino) ∧ w.cell? ⟨b1, o1 + 2, none⟩ = some (.int .i64 v.kind) ∧ w.cell? ⟨b1, o1 + 3, none⟩ = some (.int .i64 v.mode) ∧ w.cell? ⟨b1, o1 + 4, none⟩ = some (.int .i64 v.uid) ∧ w.cell? ⟨b1, o1 + 5, none⟩ = some (.int .i64 v.gid) ∧ w.cell? ⟨b1, o1 + 6, none⟩ = some (.slice v.da v.dn v.dc) ∧ w.cell? ⟨b1, o1 + 7, none⟩ = some (.string v.tg) ∧ w.cell? ⟨b1, o1 + 8, none⟩ = some (.slice v.xa v.xn v.xc) ∧ w.cell? ⟨b1, o1 + 9, none⟩ = some (.bool v.op) ∧ w.cell? ⟨b2, o2, none⟩ = some (.slice u.na u.nn u.nc) ∧ w.cell? ⟨b2, o2 + 1, none⟩ = some (.int .i64 u.ino) ∧ w.cell? ⟨b2, o2 + 2, none⟩ = some (.int .i64 u.kind) ∧ w.cell? ⟨b2, o2 + 3, none⟩ = some (.int .i64 u.mode) ∧ w.cell? ⟨b2, o2 + 4, none⟩ = some (.int .i64 u.uid) ∧ w.cell? ⟨b2, o2 + 5, none⟩ = some (.int .i64 u.gid) ∧ w.cell? ⟨b2, o2 + 6, none⟩ = some (.slice u.da u.dn u.dc) ∧ w.cell? ⟨b2, o2 + 7, none⟩ = some (.string u.tg) ∧ w.cell? ⟨b2, o2 + 8, none⟩ = some (.slice u.xa u.xn u.xc) ∧ w.cell? ⟨b2, o2 + 9, none⟩ = some (.bool u.op) :=
  ⟨h0.c0, h0.c1, h0.c2, h0.c3, h0.c4, h0.c5, h0.c6, h0.c7, h0.c8, h0.c9, h1.c0, h1.c1, h1.c2, h1.c3, h1.c4, h1.c5, h1.c6, h1.c7, h1.c8, h1.c9⟩
set_option maxRecDepth 100000 in
set_option maxHeartbeats 1000000 in
theorem refSameRows (a b : Option Addr) (n c d : Nat) (A B : List (Nv × Nod)) (w : World) (ha : Ns w a n A) (hb : Ns w b n B) (he : nds A = nds B) (h20 : ∀ p ∈ A, p.2.names.length ≤ 1000000) (hc : n ≤ c) (hcm : c ≤ 9223372036854775807) :
    Calls Try.prog 15 #[.slice a n c, .slice b n d] w fun e w' => e = .returned (.bool true) ∧ Below w.heap.size w w' := by
  have HA := hide ha
  have HB := hide hb
  have HE := hide he
  have H20 := hide h20
  clear ha hb he h20
  go_enter Try.func15, Try.ntmps15
  go_wp2
  go_loopw [5, 6, 7] (fun r _ _ wr => ∃ i : Nat, r = .int .i64 i ∧ i ≤ n ∧ Below w.heap.size w wr) (fun r _ _ _ => n - (intOf r).toNat)
  case atStart => exact ⟨0, rfl, Nat.zero_le _, Below.refl _ _⟩
  case round =>
    obtain ⟨i, rfl, hi0, hbel⟩ := hrel
    have HBL := hide hbel
    by_cases hi : i < n
    · have hd : decide ((i : Int) < n) = true := by simpa using hi
      obtain ⟨ba, oa, rfl, hba, hca⟩ := (HA.out.below hbel).at (by omega)
      obtain ⟨bb, ob, rfl, hbb, hcb⟩ := (HB.out.below hbel).at (by omega)
      have hra := (HA.out.below hbel).rep i hi
      have hrb := (HB.out.below hbel).rep i hi
      have hla : i < A.length := by rw [HA.out.1]; exact hi
      have hlb : i < B.length := by rw [HB.out.1]; exact hi
      have hee : (gl A i).2 = (gl B i).2 := by
        have e1 : (nds A)[i]'(by rw [nds_length]; exact hla) = (gl A i).2 := by rw [gl_lt A i hla]; simp [nds]
        have e2 : (nds B)[i]'(by rw [nds_length]; exact hlb) = (gl B i).2 := by rw [gl_lt B i hlb]; simp [nds]
        rw [← e1, ← e2]; congr 1; try exact HE.out
      have hnn : (gl A i).1.nn ≤ 1000000 := by rw [← hra.names.1]; exact H20.out _ (gl_mem A i hla)
      have hmm : (gl B i).1.nn ≤ 1000000 := by rw [← hrb.names.1, ← hee, hra.names.1]; exact hnn
      have HK1 : Hid (∀ q, Calls Try.prog 25 #[.slice (gl A i).1.na (gl A i).1.nn (gl A i).1.nc, .slice (gl B i).1.na (gl B i).1.nn (gl B i).1.nc] (wr.drewN q) fun e w' => e = .returned (.bool true) ∧ Below wr.heap.size wr w') := fun q => by
        have := refSame_any (gl A i).1.na (gl B i).1.na (gl A i).1.nn (gl A i).1.nc (gl B i).1.nn (gl B i).1.nc _ _ (wr.drewN q) (hra.names.drewN q) (hrb.names.drewN q) hnn hmm
        rw [hee, decide_eq_true rfl] at this
        refine this.mono ?_
        rintro e w' ⟨rfl, q', rfl⟩
        exact ⟨rfl, (below_drewN wr q).trans (below_drewN _ q')⟩
      have HK2 : Hid (∀ wX, Below wr.heap.size wr wX → Calls Try.prog 23 #[.agg (gl A i).1.cells, .agg (gl B i).1.cells] wX fun e w' => e = .returned (.bool true) ∧ Below wr.heap.size wr w') := fun wX hX => by
        have := refAlike_any (gl A i).1 (gl B i).1 _ _ wX (hra.below hX) (hrb.below hX)
        rw [hee, alike_refl] at this
        refine this.mono ?_
        rintro e w' ⟨rfl, hb⟩
        exact ⟨rfl, hX.trans (hb.mono hX.size)⟩
      have hino : ((gl A i).1.ino != (gl B i).1.ino) = false := by rw [← hra.ino, ← hrb.ino, hee]; simp
      simp only [Nv.cells] at HK2
      have HNA := hide (hca i hi)
      have HNB := hide (hcb i hi)
      have HS := hide (And.intro (hca i hi).c0 (hcb i hi).c0)
      have hi1 : (i : Int) < n := by omega
      have DR : Hid (∀ q wX, Below wr.heap.size wr wX → Below wr.heap.size wr (wX.drewN q)) := fun q wX h => h.trans ((below_drewN (B := wX.heap.size) wX q).mono h.size)
      clear hca hcb hra hrb hee hbel
      generalize (gl A i).1 = v at *
      generalize (gl B i).1 = u at *
      go_wp2
      go_region_held3 (fun wX => wX.cell? ⟨ba, oa + i * 10, none⟩ = some (.slice v.na v.nn v.nc) ∧ wX.cell? ⟨bb, ob + i * 10, none⟩ = some (.slice u.na u.nn u.nc)) (first | exact HS5.out | exact HS.out)
        ((first
          | (go_at_call 25; refine (HK1.out _).mono ?_; rintro r w5 ⟨rfl, hb5⟩; have HB5 := hide hb5; have HS5 := hide (And.intro (HNA.out.below hb5 hba).c0 (HNB.out.below hb5 hbb).c0); clear hb5)))
      have HS6 := hide (two_rows (HNA.out.below HB5.out hba) (HNB.out.below HB5.out hbb))
      clear HS HS5 HK1
      go_wp2
      go_region_held3 (fun wX => wX.cell? ⟨ba, oa + i * 10, none⟩ = some (.slice v.na v.nn v.nc) ∧ wX.cell? ⟨ba, oa + i * 10 + 1, none⟩ = some (.int .i64 v.ino) ∧ wX.cell? ⟨ba, oa + i * 10 + 2, none⟩ = some (.int .i64 v.kind) ∧ wX.cell? ⟨ba, oa + i * 10 + 3, none⟩ = some (.int .i64 v.mode) ∧ wX.cell? ⟨ba, oa + i * 10 + 4, none⟩ = some (.int .i64 v.uid) ∧ wX.cell? ⟨ba, oa + i * 10 + 5, none⟩ = some (.int .i64 v.gid) ∧ wX.cell? ⟨ba, oa + i * 10 + 6, none⟩ = some (.slice v.da v.dn v.dc) ∧ wX.cell? ⟨ba, oa + i * 10 + 7, none⟩ = some (.string v.tg) ∧ wX.cell? ⟨ba, oa + i * 10 + 8, none⟩ = some (.slice v.xa v.xn v.xc) ∧ wX.cell? ⟨ba, oa + i * 10 + 9, none⟩ = some (.bool v.op) ∧ wX.cell? ⟨bb, ob + i * 10, none⟩ = some (.slice u.na u.nn u.nc) ∧ wX.cell? ⟨bb, ob + i * 10 + 1, none⟩ = some (.int .i64 u.ino) ∧ wX.cell? ⟨bb, ob + i * 10 + 2, none⟩ = some (.int .i64 u.kind) ∧ wX.cell? ⟨bb, ob + i * 10 + 3, none⟩ = some (.int .i64 u.mode) ∧ wX.cell? ⟨bb, ob + i * 10 + 4, none⟩ = some (.int .i64 u.uid) ∧ wX.cell? ⟨bb, ob + i * 10 + 5, none⟩ = some (.int .i64 u.gid) ∧ wX.cell? ⟨bb, ob + i * 10 + 6, none⟩ = some (.slice u.da u.dn u.dc) ∧ wX.cell? ⟨bb, ob + i * 10 + 7, none⟩ = some (.string u.tg) ∧ wX.cell? ⟨bb, ob + i * 10 + 8, none⟩ = some (.slice u.xa u.xn u.xc) ∧ wX.cell? ⟨bb, ob + i * 10 + 9, none⟩ = some (.bool u.op)) (first | exact HS7.out | exact HS6.out)
        ((first
          | (go_at_call 23; refine (HK2.out w5.drew (DR.out 1 w5 HB5.out)).mono ?_; rintro r w7 ⟨rfl, hb7⟩; have HB7 := hide hb7; have HS7 := hide (two_rows (HNA.out.below hb7 hba) (HNB.out.below hb7 hbb)); clear hb7)))
      have d1 := (HNA.out.below HB7.out hba).c1
      have d2 := (HNB.out.below HB7.out hbb).c1
      clear HS6 HS7 HK2
      go_wp2
      go_quiet (fail)
      go_wp2
      exact ⟨⟨i + 1, by go_num, by omega, HBL.out.trans ((DR.out _ _ HB7.out).mono HBL.out.size)⟩, by simp [intOf]; omega⟩
    · have hd : decide ((i : Int) < n) = false := by simpa using hi
      go_wp2
      go_ret
      exact ⟨rfl, HBL.out⟩
end Go.Proofs.Ytppmekmaclolbaa

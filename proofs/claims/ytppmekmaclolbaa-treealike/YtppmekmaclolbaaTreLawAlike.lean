/- Layer 7: the statement TreeAlike, walked. -/
import Derived.Test.YtppmekmaclolbaaTreShown
import Derived.Test.YtppmekmaclolbaaTreFew
import Derived.Test.YtppmekmaclolbaaTreRefAlike
import Derived.Test.YtppmekmaclolbaaTreOpen
import Derived.Deep.RegionHeld3
namespace Go.Proofs.Ytppmekmaclolbaa
set_option linter.unusedVariables false
open Go.RowKit Go.Maps
open Nam Tre

/-- The cells of three nodes. -/
theorem three {w : World} {b off p : Nat} {u0 u1 uc : Nv} (h0 : NodAt w b off u0) (h1 : NodAt w b (off + 10) u1) (h2 : Boxed w p uc) : w.cell? ⟨b, off, none⟩ = some (.slice u0.na u0.nn u0.nc) ∧ w.cell? ⟨b, off + 1, none⟩ = some (.int .i64 u0.ino) ∧ w.cell? ⟨b, off + 2, none⟩ = some (.int .i64 u0.kind) ∧ w.cell? ⟨b, off + 3, none⟩ = some (.int .i64 u0.mode) ∧ w.cell? ⟨b, off + 4, none⟩ = some (.int .i64 u0.uid) ∧ w.cell? ⟨b, off + 5, none⟩ = some (.int .i64 u0.gid) ∧ w.cell? ⟨b, off + 6, none⟩ = some (.slice u0.da u0.dn u0.dc) ∧ w.cell? ⟨b, off + 7, none⟩ = some (.string u0.tg) ∧ w.cell? ⟨b, off + 8, none⟩ = some (.slice u0.xa u0.xn u0.xc) ∧ w.cell? ⟨b, off + 9, none⟩ = some (.bool u0.op) ∧ w.cell? ⟨b, off + 10, none⟩ = some (.slice u1.na u1.nn u1.nc) ∧ w.cell? ⟨b, off + 10 + 1, none⟩ = some (.int .i64 u1.ino) ∧ w.cell? ⟨b, off + 10 + 2, none⟩ = some (.int .i64 u1.kind) ∧ w.cell? ⟨b, off + 10 + 3, none⟩ = some (.int .i64 u1.mode) ∧ w.cell? ⟨b, off + 10 + 4, none⟩ = some (.int .i64 u1.uid) ∧ w.cell? ⟨b, off + 10 + 5, none⟩ = some (.int .i64 u1.gid) ∧ w.cell? ⟨b, off + 10 + 6, none⟩ = some (.slice u1.da u1.dn u1.dc) ∧ w.cell? ⟨b, off + 10 + 7, none⟩ = some (.string u1.tg) ∧ w.cell? ⟨b, off + 10 + 8, none⟩ = some (.slice u1.xa u1.xn u1.xc) ∧ w.cell? ⟨b, off + 10 + 9, none⟩ = some (.bool u1.op) ∧ w.cell? ⟨p, 0, none⟩ = some (.slice uc.na uc.nn uc.nc) ∧ w.cell? ⟨p, 1, none⟩ = some (.int .i64 uc.ino) ∧ w.cell? ⟨p, 2, none⟩ = some (.int .i64 uc.kind) ∧ w.cell? ⟨p, 3, none⟩ = some (.int .i64 uc.mode) ∧ w.cell? ⟨p, 4, none⟩ = some (.int .i64 uc.uid) ∧ w.cell? ⟨p, 5, none⟩ = some (.int .i64 uc.gid) ∧ w.cell? ⟨p, 6, none⟩ = some (.slice uc.da uc.dn uc.dc) ∧ w.cell? ⟨p, 7, none⟩ = some (.string uc.tg) ∧ w.cell? ⟨p, 8, none⟩ = some (.slice uc.xa uc.xn uc.xc) ∧ w.cell? ⟨p, 9, none⟩ = some (.bool uc.op) :=
  ⟨h0.c0, h0.c1, h0.c2, h0.c3, h0.c4, h0.c5, h0.c6, h0.c7, h0.c8, h0.c9, h1.c0, h1.c1, h1.c2, h1.c3, h1.c4, h1.c5, h1.c6, h1.c7, h1.c8, h1.c9, h2.c0, h2.c1, h2.c2, h2.c3, h2.c4, h2.c5, h2.c6, h2.c7, h2.c8, h2.c9⟩
set_option maxRecDepth 100000 in
set_option maxHeartbeats 4000000 in
theorem alike_walk (v0 : Nv) (x0 : Nod) (v1 : Nv) (x1 : Nod) (na : Option Addr) (nn nc : Nat) (l : List ByteArray) (W : World) (h0 : Rep W v0 x0) (h1 : Rep W v1 x1) (hn : Rs W na nn l) (hnc : nn ≤ nc) (hncm : nc ≤ 9223372036854775807) (hnn : na = none → nc = 0) :
    Calls Try.prog 6 #[.agg v0.cells, .agg v1.cells, .slice na nn nc] W fun e W' => e = .returned (.bool true) ∧ Below W.heap.size W W' := by
  have H0 := hide h0
  have H1 := hide h1
  have HN := hide hn
  have bel2 : Hid (∀ o p, Below W.heap.size W ((W.alloc o).alloc p)) := fun o p => below_alloc2 W o p
  have BX0 : Hid (∀ p, Boxed ((W.alloc (.cells v0.cells 42)).alloc p) W.heap.size v0) := fun p => (boxed W v0).below ((Below.refl _ _).alloc (Nat.le_refl _) _)
  have BX1 : Hid (∀ o, Boxed ((W.alloc o).alloc (.cells v1.cells 42)) (W.heap.size + 1) v1) := fun o => by
    have := boxed (W.alloc o) v1
    simpa using this
  clear h0 h1 hn
  unfold Nv.cells at *
  go_enter Try.func6, Try.ntmps6
  go_wp2_with (go_at_call 9; refine (shown_any _).mono ?_)
  rintro e w1 ⟨rfl, hb1⟩
  have E1 : Hid (Below W.heap.size W w1) := (bel2.out _ _).trans (hb1.mono (bel2.out _ _).size)
  have B0 := hide ((BX0.out _).below hb1)
  have B1 := hide ((BX1.out _).below hb1)
  obtain ⟨_, b0, b1, b2, b3, b4, b5, b6, b7, b8, b9⟩ := (BX0.out _).below hb1
  obtain ⟨_, d0, d1, d2, d3, d4, d5, d6, d7, d8, d9⟩ := (BX1.out _).below hb1
  clear hb1 BX0 BX1
  go_wp2_with (go_at_call 10; refine (few_any _ 2 2 [(v0, x0), (v1, x1)] _ ((sh_two' (v := v0) (u := v1) (by simp)).ns ?_) (by omega) (by omega)).mono ?_)
  · intro p hp
    rcases List.mem_cons.1 hp with rfl | hp
    · exact H0.out.below (E1.out.alloc E1.out.size _)
    · rw [List.mem_singleton] at hp
      subst hp
      exact H1.out.below (E1.out.alloc E1.out.size _)
  rintro e w2 ⟨ao, k, c', rfl, _, hown, hns, hb2⟩
  have E2 : Hid (Below W.heap.size W w2) := (E1.out.alloc E1.out.size _).trans (hb2.mono (by have := E1.out.size; simp; omega))
  obtain rfl : k = 2 := by rw [← hns.1]; rfl
  have hcap := cap_owns hown
  obtain ⟨b, off, rfl, hb, hca⟩ := hns.at (by omega)
  have hn0 := hca 0 (by omega)
  have hn1 := hca 1 (by omega)
  have hr0 : Rep w2 (cutv v0) (Tre.cut x0) := hns.2.1 (cutv v0, Tre.cut x0) (by simp [fewL])
  have hr1 : Rep w2 (cutv v1) (Tre.cut x1) := hns.2.1 (cutv v1, Tre.cut x1) (by simp [fewL])
  have e0 : (gl (fewL [(v0, x0), (v1, x1)]) 0).1 = cutv v0 := rfl
  have e1 : (gl (fewL [(v0, x0), (v1, x1)]) 1).1 = cutv v1 := rfl
  rw [e0, Nat.zero_mul, Nat.add_zero] at hn0
  rw [e1, Nat.one_mul] at hn1
  obtain ⟨_, f0, f1, f2, f3, f4, f5, f6, f7, f8, f9⟩ := (B1.out.below (((Below.refl _ w1).alloc (Nat.le_refl _) _).trans (hb2.mono (by simp))))
  have hrn : Rs w2 na nn l := HN.out.below E2.out
  have hi64 := H1.out.in64
  generalize cutv v0 = u0 at *
  generalize cutv v1 = u1 at *
  generalize Tre.cut x0 = y0 at *
  generalize Tre.cut x1 = y1 at *
  have HR0 := hide hr0
  have HR1 := hide hr1
  have HN0 := hide hn0
  have HN1 := hide hn1
  have HRN := hide hrn
  obtain ⟨g0, g1, g2, g3, g4, g5, g6, g7, g8, g9⟩ := hn0
  clear hns hb2 hown hca hn1 hr0 hr1 hrn e0 e1 b0 b1 b2 b3 b4 b5 b6 b7 b8 b9 d0 d1 d2 d3 d4 d5 d6 d7 d8 d9 f0 f2 f3 f4 f5 f6 f7 f8 f9
  go_wp2
  obtain ⟨uc, huc⟩ : ∃ uc : Nv, uc = ⟨na, nn, nc, v1.ino, u0.kind, u0.mode, u0.uid, u0.gid, u0.da, u0.dn, u0.dc, u0.tg, u0.xa, u0.xn, u0.xc, u0.op⟩ := ⟨_, rfl⟩
  obtain ⟨w3, hw3⟩ : ∃ w3, w3 = w2.alloc (.cells uc.cells 42) := ⟨_, rfl⟩
  have q4 : Below w2.heap.size w2 w3 := by rw [hw3]; exact (Below.refl _ _).alloc (Nat.le_refl _) _
  have bx : Boxed w3 w2.heap.size uc := by rw [hw3]; exact boxed w2 uc
  have hrc : Rep w3 uc { y0 with names := l, ino := v1.ino } := by
    have h := HR0.out.below q4
    rw [huc]
    exact { h with names := HRN.out.below q4, nc := hnc, ncm := hncm, nnil := hnn, ino := rfl, in64 := hi64 }
  have hA : alike y0 { y0 with names := l, ino := v1.ino } = true := (alike_iff _ _).2 ⟨rfl, ⟨rfl, rfl, rfl⟩, rfl, rfl, rfl, rfl⟩
  generalize ({ y0 with names := l, ino := v1.ino } : Nod) = yc at *
  have hcells : w3 = w2.alloc (.cells #[.slice na nn nc, .int .i64 v1.ino, .int .i64 u0.kind, .int .i64 u0.mode, .int .i64 u0.uid, .int .i64 u0.gid, .slice u0.da u0.dn u0.dc, .string u0.tg, .slice u0.xa u0.xn u0.xc, .bool u0.op] 42) := by rw [hw3, huc]; rfl
  rw [← hcells]
  have hm0 := HN0.out.below q4 hb
  have hm1 := HN1.out.below q4 hb
  have E3 := hide (E2.out.trans (q4.mono E2.out.size))
  have hR0 := HR0.out.below q4
  have hR1 := HR1.out.below q4
  have hs3 := q4.size
  have hb3 : b < w3.heap.size := by omega
  have M0 := hide hm0
  have M1 := hide hm1
  have MB := hide bx
  have R0 := hide hR0
  have R1 := hide hR1
  have RC := hide hrc
  obtain ⟨z, hz⟩ : ∃ z, alike y0 y1 = z := ⟨_, rfl⟩
  have K1 : Hid (∀ wX, Below w3.heap.size w3 wX → Calls Try.prog 22 #[.agg u0.cells, .agg u1.cells] wX fun e w' => e = .returned (.bool z) ∧ Below w3.heap.size w3 w') := fun wX hX => by
    have := Alike_any u0 u1 y0 y1 wX (hR0.below hX) (hR1.below hX)
    rw [hz] at this
    exact this.mono fun e w' ⟨he, hb⟩ => ⟨he, hX.trans (hb.mono hX.size)⟩
  have K2 : Hid (∀ wX, Below w3.heap.size w3 wX → Calls Try.prog 23 #[.agg u0.cells, .agg u1.cells] wX fun e w' => e = .returned (.bool z) ∧ Below w3.heap.size w3 w') := fun wX hX => by
    have := refAlike_any u0 u1 y0 y1 wX (hR0.below hX) (hR1.below hX)
    rw [hz] at this
    exact this.mono fun e w' ⟨he, hb⟩ => ⟨he, hX.trans (hb.mono hX.size)⟩
  have K3 : Hid (∀ wX, Below w3.heap.size w3 wX → Calls Try.prog 22 #[.agg u0.cells, .agg uc.cells] wX fun e w' => e = .returned (.bool true) ∧ Below w3.heap.size w3 w') := fun wX hX => by
    have := Alike_any u0 uc y0 yc wX (hR0.below hX) (hrc.below hX)
    rw [hA] at this
    exact this.mono fun e w' ⟨he, hb⟩ => ⟨he, hX.trans (hb.mono hX.size)⟩
  simp only [Nv.cells] at K1 K2 K3
  have hS := three hm0 hm1 bx
  have dz : Hid (∀ k, Below w3.heap.size w3 (w3.drewN k)) := fun k => below_drewN w3 k
  have hc1 : (1 : Int) < 2 := by omega
  generalize w2.heap.size = p at *
  clear hw3 hcells huc hm0 hm1 bx hR0 hR1 hrc hz q4 g0 g1 g2 g3 g4 g5 g6 g7 g8 g9 f1 HN0 HN1 HR0 HR1 HRN
  have HS := hide hS
  clear hS
  go_region_held3 (fun wX => wX.cell? ⟨b, off, none⟩ = some (.slice u0.na u0.nn u0.nc) ∧ wX.cell? ⟨b, off + 1, none⟩ = some (.int .i64 u0.ino) ∧ wX.cell? ⟨b, off + 2, none⟩ = some (.int .i64 u0.kind) ∧ wX.cell? ⟨b, off + 3, none⟩ = some (.int .i64 u0.mode) ∧ wX.cell? ⟨b, off + 4, none⟩ = some (.int .i64 u0.uid) ∧ wX.cell? ⟨b, off + 5, none⟩ = some (.int .i64 u0.gid) ∧ wX.cell? ⟨b, off + 6, none⟩ = some (.slice u0.da u0.dn u0.dc) ∧ wX.cell? ⟨b, off + 7, none⟩ = some (.string u0.tg) ∧ wX.cell? ⟨b, off + 8, none⟩ = some (.slice u0.xa u0.xn u0.xc) ∧ wX.cell? ⟨b, off + 9, none⟩ = some (.bool u0.op) ∧ wX.cell? ⟨b, off + 10, none⟩ = some (.slice u1.na u1.nn u1.nc) ∧ wX.cell? ⟨b, off + 10 + 1, none⟩ = some (.int .i64 u1.ino) ∧ wX.cell? ⟨b, off + 10 + 2, none⟩ = some (.int .i64 u1.kind) ∧ wX.cell? ⟨b, off + 10 + 3, none⟩ = some (.int .i64 u1.mode) ∧ wX.cell? ⟨b, off + 10 + 4, none⟩ = some (.int .i64 u1.uid) ∧ wX.cell? ⟨b, off + 10 + 5, none⟩ = some (.int .i64 u1.gid) ∧ wX.cell? ⟨b, off + 10 + 6, none⟩ = some (.slice u1.da u1.dn u1.dc) ∧ wX.cell? ⟨b, off + 10 + 7, none⟩ = some (.string u1.tg) ∧ wX.cell? ⟨b, off + 10 + 8, none⟩ = some (.slice u1.xa u1.xn u1.xc) ∧ wX.cell? ⟨b, off + 10 + 9, none⟩ = some (.bool u1.op) ∧ wX.cell? ⟨p, 0, none⟩ = some (.slice uc.na uc.nn uc.nc) ∧ wX.cell? ⟨p, 1, none⟩ = some (.int .i64 uc.ino) ∧ wX.cell? ⟨p, 2, none⟩ = some (.int .i64 uc.kind) ∧ wX.cell? ⟨p, 3, none⟩ = some (.int .i64 uc.mode) ∧ wX.cell? ⟨p, 4, none⟩ = some (.int .i64 uc.uid) ∧ wX.cell? ⟨p, 5, none⟩ = some (.int .i64 uc.gid) ∧ wX.cell? ⟨p, 6, none⟩ = some (.slice uc.da uc.dn uc.dc) ∧ wX.cell? ⟨p, 7, none⟩ = some (.string uc.tg) ∧ wX.cell? ⟨p, 8, none⟩ = some (.slice uc.xa uc.xn uc.xc) ∧ wX.cell? ⟨p, 9, none⟩ = some (.bool uc.op)) (first | exact HS7.out | exact HS6.out | exact HS5.out | exact HS.out)
    ((first
      | (go_at_call 23; refine (K2.out w5 HB5.out).mono ?_; rintro r w6 ⟨rfl, hb6⟩; have HB6 := hide hb6; have HS6 := hide (three (M0.out.below hb6 hb3) (M1.out.below hb6 hb3) (MB.out.below hb6)); clear hb6)
      | (go_at_call 22; have hx := HB6.out; refine (K3.out w6 HB6.out).mono ?_; rintro r w7 ⟨rfl, hb7⟩; have HB7 := hide hb7; have HS7 := hide (three (M0.out.below hb7 hb3) (M1.out.below hb7 hb3) (MB.out.below hb7)); clear hb7)
      | (go_at_call 22; refine (K1.out w3.drew (dz.out 1)).mono ?_; rintro r w5 ⟨rfl, hb5⟩; have HB5 := hide hb5; have HS5 := hide (three (M0.out.below hb5 hb3) (M1.out.below hb5 hb3) (MB.out.below hb5)); clear hb5)))
  go_wp2
  go_ret
  exact ⟨rfl, E3.out.trans (HB7.out.mono E3.out.size)⟩
end Go.Proofs.Ytppmekmaclolbaa

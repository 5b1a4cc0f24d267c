import Derived.Test.YtflohhefbbidcaaLJTreCheck
import Derived.Test.YtflohhefbbidcaaLJTreOpen
set_option linter.unusedVariables false
namespace Go.Proofs.Ytflohhefbbidcaa
set_option maxRecDepth 100000
open Go.RowKit Go.Maps
open Nam Tre Stb Plc
def gp (Q : List Ly) (l k : Nat) : Nv × Nod := gl (gy Q l).L k
def InQ (Q : List Ly) (l k : Nat) : Prop := l < Q.length ∧ k < (gy Q l).n
theorem pat_any (a : Option Addr) (n c : Nat) (Q : List Ly) (l k : Nat) (w : World) (hq : NsR w a n Q) (hi : InQ Q l k) (hn : n ≤ 1000000) :
  Calls Try.prog 22 #[.slice a n c, .agg #[.int .i64 (l : Int), .int .i64 (k : Int)]] w fun e w' => e = .returned (.agg (gp Q l k).1.cells) ∧ Below w.heap.size w w' := by
 obtain ⟨hl, hk⟩ := hi
 have hln : l < n := by rw [← hq.1]; exact hl
 obtain ⟨b, off, rfl, hb, hc⟩ := hq.at (by omega)
 have hy := hq.ok l hln
 obtain ⟨b2, off2, ha2, hb2, hN⟩ := hy.ns.at (by omega)
 have hcl := hc l hln
 rw [ha2] at hcl
 have hNk := hN k hk
 have hmax : (gy Q l).n ≤ 9223372036854775807 := Nat.le_trans hy.le hy.max
 have HV : Hid ((gp Q l k).1 = (gl (gy Q l).L k).1) := rfl
 obtain ⟨v, hv⟩ : ∃ v, v = (gl (gy Q l).L k).1 := ⟨_, rfl⟩
 obtain ⟨m, hm⟩ : ∃ m, m = (gy Q l).n := ⟨_, rfl⟩
 obtain ⟨mc, hmc⟩ : ∃ m, m = (gy Q l).c := ⟨_, rfl⟩
 rw [← hv] at hNk
 rw [← hv] at HV
 rw [← hm, ← hmc] at hcl
 rw [← hm] at hk hmax
 rw [HV.out]
 have HNk := hide hNk
 have i1 : (l : Int) < n := by omega
 have i2 : (k : Int) < m := by omega
 clear hv hm hmc hN hy hc ha2 HV hq hNk
 go_enter Try.func22, Try.ntmps22
 go_wp2_with fail
 obtain ⟨w1, hw1⟩ : ∃ w1, w1 = w.alloc (Obj.cells #[Value.int IntKind.i64 (l : Int), Value.int IntKind.i64 (k : Int)] 57) := ⟨_, rfl⟩
 have hb01 : Below w.heap.size w w1 := by rw [hw1]; exact (Below.refl _ w).alloc (Nat.le_refl _) _
 have hz : w1.heap[w.heap.size]? = some (Obj.cells #[Value.int IntKind.i64 (l : Int), Value.int IntKind.i64 (k : Int)] 57) := by rw [hw1]; exact heap_alloc_new w _
 have hsz : w1.heap.size = w.heap.size + 1 := by rw [hw1]; simp
 have HB2 : Hid (∀ o, Below w1.heap.size w1 (w1.alloc o)) := fun o => (Below.refl _ w1).alloc (Nat.le_refl _) o
 have hlt1 : b < w1.heap.size := by omega
 have hlt2 : b2 < w1.heap.size := by omega
 have hlt3 : w.heap.size < w1.heap.size := by omega
 obtain ⟨p, hp⟩ : ∃ p, p = w.heap.size := ⟨_, rfl⟩
 have g0 : w1.cell? ⟨w.heap.size, 0, none⟩ = some (.int .i64 (l : Int)) := by simp [World.cell?, hz]
 have g1 : w1.cell? ⟨w.heap.size, 1, none⟩ = some (.int .i64 (k : Int)) := by simp [World.cell?, hz]
 have hN2 := HNk.out.below hb01 hb2
 have hc2 := (hb01.cell (by exact hb)).trans hcl
 have HB := hide hb01
 rw [← hw1, ← hsz]
 rw [← hp] at g0 g1 hlt3 ⊢
 clear hw1 hb01 hz hp hcl HNk hsz hb hb2
 obtain ⟨c0, c1, c2, c3, c4, c5, c6, c7, c8, c9⟩ := hN2
 go_region
 have HB3 : Hid (∀ o, Below w.heap.size w (w1.alloc o).drew) := fun o => HB.out.trans (((HB2.out o).drew).mono HB.out.size)
 clear c0 c1 c2 c3 c4 c5 c6 c7 c8 c9 g0 g1 hc2 HB2 HB
 go_wp2
 refine bodyPost_ret (results_box (p := 4) rfl _ _ w1.heap.size _ rfl (load_nod (fr := (0, 0)) (heap_alloc_new w1 _) rfl)) rfl ⟨rfl, HB3.out _⟩
theorem field_nod0 (v : Nv) (W : World) : (Instr.field 44 (.agg v.cells) 0).run Try.prog W = .ok (.slice v.na v.nn v.nc) W := by kernel_rfl
theorem field_nod2 (v : Nv) (W : World) : (Instr.field 44 (.agg v.cells) 2).run Try.prog W = .ok (.int .i64 v.kind) W := by kernel_rfl
def nmsAt (Q : List Ly) (c : Nat) : List ByteArray := (gp Q (pa c) (pb c)).2.names
def kcQ (Q : List Ly) (x y : Nat) : Int := cmp (nm (nmsAt Q x)) (nm (nmsAt Q y))
theorem NsR.names {w : World} {a : Option Addr} {n : Nat} {Q : List Ly} (hq : NsR w a n Q) {l k : Nat} (hi : InQ Q l k) : Rs w (gp Q l k).1.na (gp Q l k).1.nn (gp Q l k).2.names :=
 ((hq.ok l (by rw [← hq.1]; exact hi.1)).ns.rep k hi.2).names
theorem pcompare_any (a : Option Addr) (n c : Nat) (Q : List Ly) (x y : Nat) (w : World) (hq : NsR w a n Q) (hx : InQ Q (pa x) (pb x)) (hy : InQ Q (pa y) (pb y)) (hn : n ≤ 1000000) (hs : ∀ l k, InQ Q l k → (gp Q l k).1.nn ≤ 1000000) :
  Calls Try.prog 43 #[.slice a n c, pv x, pv y] w fun e w' => e = .returned (.int .i64 (kcQ Q x y)) ∧ Below w.heap.size w w' := by
 have HQ := hide hq
 have HA1 : Hid (∀ W, Below w.heap.size w W → Calls Try.prog 22 #[.slice a n c, pv x] W fun e w' => e = .returned (.agg (gp Q (pa x) (pb x)).1.cells) ∧ Below W.heap.size W w') := fun W hb => pat_any a n c Q _ _ W (hq.below hb) hx hn
 have HA2 : Hid (∀ W, Below w.heap.size w W → Calls Try.prog 22 #[.slice a n c, pv y] W fun e w' => e = .returned (.agg (gp Q (pa y) (pb y)).1.cells) ∧ Below W.heap.size W w') := fun W hb => pat_any a n c Q _ _ W (hq.below hb) hy hn
 have HC : Hid (∀ W, Below w.heap.size w W → Calls Try.prog 59 #[.slice (gp Q (pa x) (pb x)).1.na (gp Q (pa x) (pb x)).1.nn (gp Q (pa x) (pb x)).1.nc, .slice (gp Q (pa y) (pb y)).1.na (gp Q (pa y) (pb y)).1.nn (gp Q (pa y) (pb y)).1.nc] W fun e w' => e = .returned (.int .i64 (kcQ Q x y)) ∧ Below W.heap.size W w') := fun W hb => by
  refine (Compare_any _ _ _ _ _ _ _ _ W ((hq.below hb).names hx) ((hq.below hb).names hy) (hs _ _ hx) (hs _ _ hy)).mono ?_
  rintro e w' ⟨rfl, q, rfl⟩
  exact ⟨rfl, drewN_below W q⟩
 generalize (gp Q (pa x) (pb x)).1 = v at *
 generalize (gp Q (pa y) (pb y)).1 = u at *
 generalize kcQ Q x y = z at *
 have hF1 := field_nod0 v
 have hF2 := field_nod0 u
 unfold pv at *
 generalize pa x = xa at *
 generalize pb x = xb at *
 generalize pa y = ya at *
 generalize pb y = yb at *
 obtain ⟨w2, hw2⟩ : ∃ w2, w2 = (w.alloc (Obj.cells #[Value.int IntKind.i64 (xa : Int), Value.int IntKind.i64 (xb : Int)] 57)).alloc (Obj.cells #[Value.int IntKind.i64 (ya : Int), Value.int IntKind.i64 (yb : Int)] 57) := ⟨_, rfl⟩
 have hb02 : Below w.heap.size w w2 := by rw [hw2]; exact ((Below.refl _ w).alloc (Nat.le_refl _) _).alloc (by simp) _
 obtain ⟨p, hp⟩ : ∃ p, p = w.heap.size := ⟨_, rfl⟩
 have hz1 : w2.heap[p]? = some (Obj.cells #[Value.int IntKind.i64 (xa : Int), Value.int IntKind.i64 (xb : Int)] 57) := by rw [hw2, hp, Below.heap_alloc _ _ _ (by simp)]; exact heap_alloc_new w _
 have hz2 : w2.heap[p + 1]? = some (Obj.cells #[Value.int IntKind.i64 (ya : Int), Value.int IntKind.i64 (yb : Int)] 57) := by rw [hw2, hp]; exact heap_new (by simp)
 have hl2 : p + 1 < w2.heap.size := by rw [hw2, hp]; simp
 have HCL : Hid (∀ W, Below w2.heap.size w2 W → W.cell? ⟨p, 0, none⟩ = some (.int .i64 (xa : Int)) ∧ W.cell? ⟨p, 1, none⟩ = some (.int .i64 (xb : Int)) ∧ W.cell? ⟨p + 1, 0, none⟩ = some (.int .i64 (ya : Int)) ∧ W.cell? ⟨p + 1, 1, none⟩ = some (.int .i64 (yb : Int))) := fun W hb => by
  have h1 := (hb.block p (by omega)).trans hz1
  have h2 := (hb.block (p + 1) hl2).trans hz2
  simp [World.cell?, h1, h2]
 have HB2 := hide hb02
 clear hq hx hy hs hb02 hz1 hz2
 unfold Nv.cells at *
 go_enter Try.func43, Try.ntmps43
 go_wp2_with fail
 rw [← hw2, ← hp]
 clear hw2 hp
 have HS0 := hide (HCL.out _ (Below.refl _ w2))
 have HB0 := hide (Below.refl w2.heap.size w2)
 go_region_held3 (fun wX => wX.cell? ⟨p, 0, none⟩ = some (.int .i64 (xa : Int)) ∧ wX.cell? ⟨p, 1, none⟩ = some (.int .i64 (xb : Int)) ∧ wX.cell? ⟨p + 1, 0, none⟩ = some (.int .i64 (ya : Int)) ∧ wX.cell? ⟨p + 1, 1, none⟩ = some (.int .i64 (yb : Int))) (first | exact HS0.out | exact HS3.out | exact HS4.out | exact HS5.out)
  ((first
   | (have hx4 := HB4.out; clear hx4; go_at_call 59; refine (HC.out _ (HB2.out.trans ((show Below w2.heap.size w2 _ from (by first | exact HB4.out | exact HB4.out.drew)).mono HB2.out.size))).mono ?_; rintro e w5 ⟨rfl, hb5⟩; have HB5 : Hid (Below w2.heap.size w2 w5) := HB4.out.trans (Below.mono (by first | exact hb5 | exact (Below.refl w4.heap.size w4).drew.trans hb5) HB4.out.size); have HS5 := hide (HCL.out _ HB5.out); clear hb5)
   | (have hx3 := HB3.out; clear hx3; go_at_call 22; refine (HA2.out _ (HB2.out.trans ((show Below w2.heap.size w2 _ from (by first | exact HB3.out | exact HB3.out.drew)).mono HB2.out.size))).mono ?_; rintro e w4 ⟨rfl, hb4⟩; have HB4 : Hid (Below w2.heap.size w2 w4) := HB3.out.trans (Below.mono (by first | exact hb4 | exact (Below.refl w3.heap.size w3).drew.trans hb4) HB3.out.size); have HS4 := hide (HCL.out _ HB4.out); clear hb4)
   | (go_at_call 22; refine (HA1.out _ (HB2.out.trans ((show Below w2.heap.size w2 _ from (by first | exact HB0.out | exact HB0.out.drew)).mono HB2.out.size))).mono ?_; rintro e w3 ⟨rfl, hb3⟩; have HB3 : Hid (Below w2.heap.size w2 w3) := (by first | exact hb3 | exact (HB0.out.drew).trans hb3); have HS3 := hide (HCL.out _ HB3.out); clear hb3)))
 all_goals (
  rename_i hHd
  clear hHd HS0 HS3 HS4 HA1 HA2 HC HCL HB0
  go_wp2
  go_ret
  exact ⟨rfl, HB2.out.trans (HB5.out.mono HB2.out.size)⟩)
end Go.Proofs.Ytflohhefbbidcaa

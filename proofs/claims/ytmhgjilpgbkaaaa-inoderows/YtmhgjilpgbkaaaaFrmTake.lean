/- The walks of Take and Skip, and of the functions that they hand to pass. -/
import Derived.Test.YtmhgjilpgbkaaaaFrmPass
namespace Go.Proofs.Ytmhgjilpgbkaaaa
set_option linter.unusedVariables false
open Go.RowKit Go.Maps
open Lz (g pack unpack)
open Crc (ent more)
open Cur
open Frm

theorem enters (fn : Nat) {f : Func} {c : Code} (hf : Try.prog.funcs[fn]? = some f) (hname : (f.name == "runtime.NumGoroutine") = false) (hb : f.body = some c) : ∀ (args : Array Value) (w : World), (callFunc fn args).run Try.prog w = .ok (.enter fn args) w := fun args w => by
  have hn : ¬ f.name = "runtime.NumGoroutine" := by simpa using hname
  simp [callFunc, hf, hn, hb]
/-- What Skip answers. -/
def Skips (z : List Int) (at' : Int) (w w' : World) (r : Ending) : Prop := r = .returned (.tuple #[.int .i64 (skip z at').1, .int .i64 (skip z at').2]) ∧ Below w.heap.size w w'

theorem below_set1 {B p : Nat} {a w : World} (h : Below B a w) (hB : B ≤ w.heap.size) (hp : B ≤ p) (v : Value) : Below B a (w.setCell ⟨p, 0, none⟩ v) := by
  have hf : Fr (fun k => B ≤ k) w (w.setCell ⟨p, 0, none⟩ v) := (Fr.refl (fun k => B ≤ k) w).set (p := ⟨p, 0, none⟩) v (fun _ => hp)
  exact h.trans (hf.below B hB (fun k h => h))
/-- A variable that was captured: a block of one cell. -/
def One1 (t : TypeId) (w : World) (p : Nat) (v : Value) : Prop := w.heap[p]? = some (.cells #[v] t (0, 0))
theorem One1.c {t : TypeId} {w : World} {p : Nat} {v : Value} (h : One1 t w p v) : w.cell? ⟨p, 0, none⟩ = some v := by unfold One1 at h; simp [World.cell?, h]
theorem One1.f {t : TypeId} {w : World} {p : Nat} {v : Value} (h : One1 t w p v) : w.frozen? ⟨p, 0, none⟩ = false := by unfold One1 at h; simp [World.frozen?, h]
theorem One1.lt {t : TypeId} {w : World} {p : Nat} {v : Value} (h : One1 t w p v) : p < w.heap.size := heap_lt h
theorem One1.below {t : TypeId} {w w' : World} {p : Nat} {v : Value} (h : One1 t w p v) (hb : Below w.heap.size w w') : One1 t w' p v := (hb.block p h.lt).trans h
theorem One1.set {t : TypeId} {w : World} {p : Nat} {v : Value} (h : One1 t w p v) (u : Value) : One1 t (w.setCell ⟨p, 0, none⟩ u) p u := by
  unfold One1; rw [heap_setCell_self h]; rfl
/-- What Take's function leaves: the bytes in the variable q. -/
def Asked (t : TypeId) (q : Nat) (w w' : World) (zs : List Int) : Prop := ∃ ao c, One1 t w' q (.slice ao zs.length c) ∧ Fr (One q) w w' ∧ Bs w' ao zs.length zs ∧ zs.length ≤ c ∧ c ≤ 9223372036854775807 ∧ (ao = none → c = 0) ∧ ∀ a, ao = some a → w.heap.size ≤ a.block
set_option maxRecDepth 100000 in
theorem takeOne_any (tb tx q len cap : Nat) (n : Int) (T : Nat → Nat) (ao : Option Addr) (zs : List Int) (v0 : Value) (w : World) (hT : Tb w tb T) (htb : tb < w.heap.size) (hS : Small T) (hn : 0 ≤ n ∧ n ≤ 65535) (hB : Bs w ao len zs) (hc : len ≤ cap) (hnil : ao = none → cap = 0) (h4 : 4 ≤ len) (hl : len ≤ 1000)
    (hx : One1 40 w tx (.pointer (some ⟨tb, 0, none⟩))) (hq : One1 25 w q v0) :
    Calls Try.prog 89 #[.int .i64 n, .slice ao len cap, .pointer (some ⟨tx, 0, none⟩), .pointer (some ⟨q, 0, none⟩)] w fun r w' => r = .returned (.bool (decide (0 < (plain T n zs).length))) ∧ Asked 25 q w w' (plain T n zs) := by
  have HP := hide (plain_any tb len cap n T ao zs w hT htb hS hn hB hc hnil h4 hl)
  have x0 := hx.c
  have HQ : Hid (One1 25 w q v0) := hq
  clear hT hB hnil hx hq hS
  generalize plain T n zs = py at *
  obtain ⟨m, hm⟩ : ∃ m, py.length = m := ⟨_, rfl⟩
  have HM : Hid (py.length = m) := hm
  rw [hm]
  clear hm
  go_enter Try.func89, Try.ntmps89
  go_wp2_with fail
  refine HP.out.mono ?_
  clear HP
  rintro r w1 ⟨ao1, c1, rfl, hF⟩
  rw [HM.out] at hF
  rw [HM.out]
  have hq1 := HQ.out.below hF.bel
  have q0 := hq1.c
  have f0 := hq1.f
  have HX : Hid (Asked 25 q w (w1.setCell ⟨q, 0, none⟩ (.slice ao1 m c1)) py) := by
    refine ⟨ao1, c1, by rw [HM.out]; exact hq1.set _, (Fr.of_below hF.bel).set (p := ⟨q, 0, none⟩) _ (fun _ => rfl), ?_, by rw [HM.out]; exact hF.cap, hF.max, hF.nil, hF.new⟩
    rw [HM.out]
    refine hF.bs.fr ((Fr.refl (One q) w1).set (p := ⟨q, 0, none⟩) _ (fun _ => rfl)) (fun a ha _ he => ?_)
    have h1 := hF.new a ha
    have h2 := HQ.out.lt
    have : a.block = q := he
    omega
  have hcl := (hq1.set (.slice ao1 m c1)).c
  clear hF hq1
  go_wp2
  go_ret
  exact ⟨rfl, HX.out⟩
/-- Three results, the first of them in a variable of its own. -/
theorem results_c3 {fn : Func} {p u v : Tmp} (h : fn.results = #[.cell p 25, .tmp u, .tmp v]) (tmps : Array Value) (w : World) (q n c : Nat) (ao : Option Addr) (hp : tmps.getD p undef = .pointer (some ⟨q, 0, none⟩)) (hq : w.cell? ⟨q, 0, none⟩ = some (.slice ao n c)) :
    (results fn tmps).run Try.prog w = .ok (.tuple #[.slice ao n c, tmps.getD u undef, tmps.getD v undef]) w := by
  simp only [results, h]
  rw [Array.getD_eq_getD_getElem?] at hp
  go_simp
/-- What Take answers. -/
def Takes (T : Nat → Nat) (z : List Int) (at' : Int) (w w' : World) (r : Ending) : Prop :=
  ∃ ao c, r = .returned (.tuple #[.slice ao (take T z at').1.length c, .int .i64 (take T z at').2.1, .int .i64 (take T z at').2.2]) ∧ Fresh w w' ao (take T z at').1.length c (take T z at').1
theorem num_bd {z : List Int} (h : Bytes z) (k : Nat) : 0 ≤ num z k ∧ num z k ≤ 65535 := by
  have h0 := h.g k
  have h1 := h.g (k + 1)
  unfold num; omega
theorem spot_some {z : List Int} {at' : Int} {n : Int} {sz : Nat} (h : spot z at' = some (n, sz)) : 0 ≤ at' ∧ at'.toNat + 3 + sz ≤ z.length ∧ n = num z at'.toNat ∧ (sz : Int) = (bsz n).1 ∧ (bsz n).2 = true := by
  unfold spot at h
  split at h
  · simp at h
  · rename_i h1
    split at h
    · simp at h
    · rename_i h2
      split at h
      · simp at h
      · rename_i h3
        obtain ⟨rfl, rfl⟩ : num z at'.toNat = n ∧ (bsz (num z at'.toNat)).1.toNat = sz := by simpa using h
        have := (bsz_bd (num z at'.toNat)).1
        refine ⟨by omega, by omega, rfl, by omega, ?_⟩
        cases hb : (bsz (num z at'.toNat)).2
        · exact absurd (.inl hb) h2
        · rfl
theorem body_length {z : List Int} {k sz : Nat} (h : k + 3 + sz ≤ z.length) : (body z k sz).length = sz := by unfold body; simp; omega
set_option maxRecDepth 100000 in
set_option maxHeartbeats 1000000 in
theorem Take_any (tb len cap : Nat) (at' : Int) (T : Nat → Nat) (ao : Option Addr) (zs : List Int) (w : World) (hT : Tb w tb T) (htb : tb < w.heap.size) (hS : Small T) (hB : Bs w ao len zs) (hc : len ≤ cap) (hnil : ao = none → cap = 0) (hl : len ≤ 1000000) (hcm : cap ≤ 9223372036854775807)
    (ha : -9223372036854775808 ≤ at' ∧ at' ≤ 9223372036854775807) :
    Calls Try.prog 77 #[.pointer (some ⟨tb, 0, none⟩), .slice ao len cap, .int .i64 at'] w fun r w' => Takes T zs at' w w' r := by
  have hmf : ∀ (fn : Fn) (first cap : Array Value) (w : World), (Instr.makeFunc fn first cap).run Try.prog w = .ok (.func fn first cap) w := fun _ _ _ _ => rfl
  obtain ⟨o1, ho1⟩ : ∃ o, o = Obj.cells #[.pointer (some ⟨tb, 0, none⟩)] 40 := ⟨_, rfl⟩
  obtain ⟨o2, ho2⟩ : ∃ o, o = Obj.cells #[.slice none 0 0] 25 := ⟨_, rfl⟩
  have hb2 : Below w.heap.size w ((w.alloc o1).alloc o2) := ((Below.refl _ _).alloc (Nat.le_refl _) _).alloc (by simp) _
  have hx : One1 40 ((w.alloc o1).alloc o2) w.heap.size (.pointer (some ⟨tb, 0, none⟩)) := by
    rw [ho1]; exact heap_alloc2_old w _ _
  have hq : One1 25 ((w.alloc o1).alloc o2) (w.heap.size + 1) (.slice none 0 0) := by
    have := heap_alloc_new (w.alloc o1) o2
    rw [World.size_alloc] at this
    rw [ho2] at this ⊢; exact this
  have HP := hide (framePass_any len cap at' 89 #[.pointer (some ⟨w.heap.size, 0, none⟩), .pointer (some ⟨w.heap.size + 1, 0, none⟩)]
    (fun ok w' => ∀ n sz, spot zs at' = some (n, sz) → ok = decide (0 < (plain T n (body zs at'.toNat sz)).length) ∧ Asked 25 (w.heap.size + 1) ((w.alloc o1).alloc o2) w' (plain T n (body zs at'.toNat sz)))
    ao zs ((w.alloc o1).alloc o2) (hB.below hb2) hc hnil hl hcm ha (enters 89 Try.func89 (by kernel_rfl) rfl)
    (fun n sz hsp h0 w1 ao' c' hb hB' hc' hn' => by
      obtain ⟨s1, s2, s3, s4, s5⟩ := spot_some hsp
      have hnb := num_bd hB.bytes at'.toNat
      rw [← s3] at hnb
      have h5 := bsz_ge n (by omega)
      have h6 := bsz_bd n
      have htb1 : tb < w1.heap.size := Nat.lt_of_lt_of_le htb (Nat.le_trans hb2.size hb.size)
      refine (takeOne_any tb w.heap.size (w.heap.size + 1) sz c' n T ao' (body zs at'.toNat sz) (.slice none 0 0) w1 ((hT.below hb2 htb).below hb (Nat.lt_of_lt_of_le htb hb2.size)) htb1 hS hnb hB' hc' hn' (by omega) (by omega) (hx.below hb) (hq.below hb)).mono ?_
      rintro r w2 ⟨rfl, ao2, c2, k1, k2, k3, k4, k5, k6, k7⟩
      refine ⟨_, rfl, fun n' sz' h' => ?_⟩
      obtain ⟨rfl, rfl⟩ : n = n' ∧ sz = sz' := by rw [hsp] at h'; simpa using h'
      exact ⟨rfl, ao2, c2, k1, (Fr.of_below hb).then k2, k3, k4, k5, k6, fun a h => Nat.le_trans hb.size (k7 a h)⟩))
  have HB2 : Hid (Below w.heap.size w ((w.alloc o1).alloc o2)) := hb2
  have HQ : Hid (One1 25 ((w.alloc o1).alloc o2) (w.heap.size + 1) (.slice none 0 0)) := hq
  have HO : Hid (o1 = Obj.cells #[.pointer (some ⟨tb, 0, none⟩)] 40 ∧ o2 = Obj.cells #[.slice none 0 0] 25) := ⟨ho1, ho2⟩
  clear hT hB hnil hS hb2 hx hq ho1 ho2
  go_enter Try.func77, Try.ntmps77
  go_wp2_with fail
  rw [← HO.out.1, ← HO.out.2]
  refine HP.out.mono ?_
  clear HP
  rintro r w1 (⟨h1, rfl, h2⟩ | ⟨n, h1, rfl, h2⟩ | ⟨n, sz, ok, h1, h3, h2, rfl⟩)
  · have hq1 := HQ.out.below h2
    have q0 := hq1.c
    have f0 := hq1.f
    have q1 := (hq1.set (.slice none 0 0)).c
    have HX : Hid (Takes T zs at' w (w1.setCell ⟨w.heap.size + 1, 0, none⟩ (.slice none 0 0)) (.returned (.tuple #[.slice none 0 0, .int .i64 0, .int .i64 2]))) := by
      have e : take T zs at' = ([], 0, 2) := by unfold take; rw [h1]
      refine ⟨none, 0, by rw [e]; simp, ?_⟩
      rw [e]
      exact Fresh.none (below_set1 (HB2.out.trans (h2.mono HB2.out.size)) (Nat.le_trans HB2.out.size h2.size) (by omega) _)
    clear h1 h2 hq1
    go_wp2
    refine bodyPost_ret (results_c3 rfl _ _ (w.heap.size + 1) 0 0 none rfl q1) rfl ?_
    exact HX.out
  · have hq1 := HQ.out.below h2
    have q0 := hq1.c
    have f0 := hq1.f
    have q1 := (hq1.set (.slice none 0 0)).c
    have HX : Hid (Takes T zs at' w (w1.setCell ⟨w.heap.size + 1, 0, none⟩ (.slice none 0 0)) (.returned (.tuple #[.slice none 0 0, .int .i64 (at' + 3), .int .i64 0]))) := by
      have e : take T zs at' = ([], at' + 3, 0) := by unfold take; rw [h1]; simp
      refine ⟨none, 0, by rw [e]; simp, ?_⟩
      rw [e]
      exact Fresh.none (below_set1 (HB2.out.trans (h2.mono HB2.out.size)) (Nat.le_trans HB2.out.size h2.size) (by omega) _)
    clear h1 h2 hq1
    go_wp2
    refine bodyPost_ret (results_c3 rfl _ _ (w.heap.size + 1) 0 0 none rfl q1) rfl ?_
    exact HX.out
  · obtain ⟨hok, ao2, c2, k1, k2, k3, k4, k5, k6, k7⟩ := h2 n sz h1
    clear h2
    obtain ⟨py, hpy⟩ : ∃ py, py = plain T n (body zs at'.toNat sz) := ⟨_, rfl⟩
    rw [← hpy] at hok k1 k3 k4
    have e : take T zs at' = if py = [] then ([], 0, 2) else (py, at' + 3 + sz, 0) := by unfold take; rw [h1, hpy]; simp [h3]
    obtain ⟨m, hm⟩ : ∃ m, py.length = m := ⟨_, rfl⟩
    rw [hm] at hok k1 k3 k4
    have q0 := k1.c
    have f0 := k1.f
    have q1 := (k1.set (.slice ao2 m c2)).c
    have hb : Below w.heap.size w (w1.setCell ⟨w.heap.size + 1, 0, none⟩ (.slice ao2 m c2)) := HB2.out.trans (((k2.set (p := ⟨w.heap.size + 1, 0, none⟩) _ (fun _ => rfl)).mono (S' := fun k => w.heap.size ≤ k) (fun i _ (h : i = w.heap.size + 1) => by show w.heap.size ≤ i; omega)).below w.heap.size HB2.out.size (fun k h => h))
    have hbs : Bs (w1.setCell ⟨w.heap.size + 1, 0, none⟩ (.slice ao2 m c2)) ao2 m py := by
      refine k3.fr ((Fr.refl (One (w.heap.size + 1)) w1).set (p := ⟨w.heap.size + 1, 0, none⟩) _ (fun _ => rfl)) (fun a ha _ he => ?_)
      have g1 := k7 a ha
      simp at g1
      have : a.block = w.heap.size + 1 := he
      omega
    cases ok with
    | false =>
      have hm0 : m = 0 := by simpa using hok.symm
      subst hm0
      obtain rfl : py = [] := List.eq_nil_of_length_eq_zero hm
      rw [if_pos rfl] at e
      have HX : Hid (Takes T zs at' w (w1.setCell ⟨w.heap.size + 1, 0, none⟩ (.slice ao2 0 c2)) (.returned (.tuple #[.slice ao2 0 c2, .int .i64 0, .int .i64 2]))) := by
        refine ⟨ao2, c2, by rw [e]; simp, ?_⟩
        rw [e]; exact ⟨hbs, Nat.zero_le _, k5, k6, hb, fun a h => Nat.le_trans HB2.out.size (k7 a h)⟩
      clear h1 h3 k1 k2 k3 k4 k5 k6 k7 hb hbs hok e
      rw [if_neg (by simp)]
      go_wp2
      refine bodyPost_ret (results_c3 rfl _ _ (w.heap.size + 1) 0 c2 ao2 rfl q1) rfl ?_
      exact HX.out
    | true =>
      have hm0 : 0 < m := by simpa using hok.symm
      have hne : py ≠ [] := fun e => by rw [e] at hm; simp at hm; omega
      rw [if_neg hne] at e
      have HX : Hid (Takes T zs at' w (w1.setCell ⟨w.heap.size + 1, 0, none⟩ (.slice ao2 m c2)) (.returned (.tuple #[.slice ao2 m c2, .int .i64 (at' + 3 + sz), .int .i64 0]))) := by
        refine ⟨ao2, c2, by rw [e, hm], ?_⟩
        rw [e, hm]; exact ⟨hbs, k4, k5, k6, hb, fun a h => Nat.le_trans HB2.out.size (k7 a h)⟩
      clear h1 h3 k1 k2 k3 k4 k5 k6 k7 hb hbs hok e hne hm hpy
      rw [if_pos rfl]
      go_wp2
      refine bodyPost_ret (results_c3 rfl _ _ (w.heap.size + 1) m c2 ao2 rfl q1) rfl ?_
      exact HX.out
end Go.Proofs.Ytmhgjilpgbkaaaa

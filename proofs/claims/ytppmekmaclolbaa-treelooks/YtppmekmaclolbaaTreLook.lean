/- Layer 7: tree.Find, tree.Links and the reference's Links, walked. -/
import Derived.Test.YtppmekmaclolbaaTreKid
namespace Go.Proofs.Ytppmekmaclolbaa
set_option linter.unusedVariables false
open Go.RowKit Go.Maps
open Nam Tre Stb

set_option maxRecDepth 100000 in
/-- Two rows of which the second may be of any length. -/
theorem Same_one (a b : Option Addr) (n c m d : Nat) (l k : List ByteArray) (w : World) (hl : Rs w a n l) (hk : Rs w b m k) (hn : n ≤ 1000000) :
    Calls Try.prog 50 #[.slice a n c, .slice b m d] w fun e w' => e = .returned (.bool (decide (l = k))) ∧ ∃ q, w' = w.drewN q := by
  by_cases hnm : n = m
  · have := Same_any a b n c m d l k w hl hk hn (by omega)
    rw [nm_dec] at this
    exact this
  · have hnm' : ((n : Int) != m) = true := by simp; omega
    have hne : Hid (false = decide (l = k)) := by
      show _ = _
      symm
      rw [decide_eq_false_iff_not]
      intro h
      have := congrArg List.length h
      rw [hl.1, hk.1] at this
      exact hnm this
    have HE : Hid (Calls Try.prog 69 #[.slice a n c, .slice b m d] w fun e w' => e = .returned (.bool false) ∧ w' = w) := by
      clear hl hk hne
      show Calls _ _ _ _ _
      go_enter Try.func69, Try.ntmps69
      go_wp2
      go_ret
      exact ⟨rfl, rfl⟩
    clear hl hk
    go_enter Try.func50, Try.ntmps50
    go_wp2_with (go_at_call 69; refine HE.out.mono ?_; rintro e w' ⟨rfl, rfl⟩)
    go_ret
    exact ⟨ret_bool hne.out, 0, rfl⟩
set_option maxRecDepth 100000 in
theorem find1_asks (L : List (Nv × Nod)) (b : Option Addr) (m d : Nat) (k : List ByteArray) (p3 : Nat) (w : World) (hl : ∀ p ∈ L, Rep w p.1 p.2) (hk : Rs w b m k) (h20 : ∀ p ∈ L, p.2.names.length ≤ 1000000) (h3 : w.cell? ⟨p3, 0, none⟩ = some (.slice b m d)) (hp : p3 < w.heap.size) :
    Asks 49 #[.pointer (some ⟨p3, 0, none⟩)] (nmd k) L w := by
  intro q hq w1 hb
  have hr := (hl q hq).below hb
  have h4 : w1.cell? ⟨p3, 0, none⟩ = some (.slice b m d) := (hb.cell hp).trans h3
  have hp1 : p3 < w1.heap.size := Nat.lt_of_lt_of_le hp hb.size
  have cb : ∀ o, (w1.alloc o).cell? ⟨p3, 0, none⟩ = some (.slice b m d) := fun o => (((Below.refl w1.heap.size w1).alloc (Nat.le_refl _) o).cell hp1).trans h4
  have hnl := h20 q hq
  have hn1 := hr.names.1
  have HCA := hide (fun o => Same_one q.1.na b q.1.nn q.1.nc m d q.2.names k (w1.alloc o) (hr.names.below ((Below.refl _ _).alloc (Nat.le_refl _) _)) ((hk.below hb).below ((Below.refl _ _).alloc (Nat.le_refl _) _)) (by omega))
  have HBE := hide (fun o => (Below.refl w1.heap.size w1).alloc (Nat.le_refl _) o)
  obtain ⟨v, x⟩ := q
  show Calls Try.prog 49 #[.agg #[.slice v.na v.nn v.nc, .int .i64 v.ino, .int .i64 v.kind, .int .i64 v.mode, .int .i64 v.uid, .int .i64 v.gid, .slice v.da v.dn v.dc, .string v.tg, .slice v.xa v.xn v.xc, .bool v.op], .pointer (some ⟨p3, 0, none⟩)] w1 _
  clear hr hnl hn1 hl hk h20 h3 hb hq
  go_enter Try.func49, Try.ntmps49
  go_wp2_with (go_at_call 50; refine (HCA.out _).mono ?_; rintro e w' ⟨rfl, q, rfl⟩)
  go_ret
  exact ⟨rfl, bdn (HBE.out _) q⟩
set_option maxRecDepth 100000 in
theorem Find_any (a : Option Addr) (n c : Nat) (L : List (Nv × Nod)) (b : Option Addr) (m d : Nat) (k : List ByteArray) (w : World) (hl : Ns w a n L) (hc : n ≤ c) (hcm : c ≤ 9223372036854775807) (hk : Rs w b m k) (h20 : ∀ p ∈ L, p.2.names.length ≤ 1000000) :
    Calls Try.prog 18 #[.slice a n c, .slice b m d] w fun e w' => e = .returned (.int .i64 (fi (nmd k) 0 (nds L))) ∧ Below w.heap.size w w' := by
  obtain ⟨W, hW⟩ : ∃ W, W = w.alloc (.cells #[.slice b m d] 31) := ⟨_, rfl⟩
  have hb : Below w.heap.size w W := by rw [hW]; exact (Below.refl _ _).alloc (Nat.le_refl _) _
  have h3 : W.cell? ⟨w.heap.size, 0, none⟩ = some (.slice b m d) := by rw [hW]; simp
  have hp : w.heap.size < W.heap.size := by rw [hW]; simp
  have HCA := hide (IndexFunc_any a n c L 49 _ (nmd k) W (hl.below hb) hc hcm (enters _ Try.func49 (by kernel_rfl) rfl) (find1_asks L b m d k w.heap.size W (hl.below hb).2.1 (hk.below hb) h20 h3 hp))
  have HB := hide hb
  have HW := hide hW
  clear hl hk h20 hb h3 hp hW
  go_enter Try.func18, Try.ntmps18
  go_upto_region 1 with fail
  rw [← HW.out]
  go_wp2_with (go_at_call 48; refine HCA.out.mono ?_; rintro e w' ⟨rfl, hb2⟩; have HB2 := hide hb2; clear hb2)
  go_ret
  exact ⟨rfl, HB.out.trans (HB2.out.mono HB.out.size)⟩
namespace Tre
/-- How many of the first i nodes have this Ino. -/
def cn (L : List (Nv × Nod)) (z : Int) (i : Nat) : Nat := ((L.take i).filter (fun p => p.1.ino == z)).length
theorem cn_zero (L : List (Nv × Nod)) (z : Int) : cn L z 0 = 0 := by simp [cn]
theorem cn_succ (L : List (Nv × Nod)) (z : Int) (i : Nat) (h : i < L.length) : cn L z (i + 1) = if ((gl L i).1.ino == z) = true then cn L z i + 1 else cn L z i := by
  unfold cn
  rw [List.take_succ_eq_append_getElem h, List.filter_append, List.length_append, gl_lt L i h]
  by_cases c : (L[i].1.ino == z) = true
  · rw [if_pos c]; simp [c]
  · rw [if_neg c]; simp [c]
theorem cn_le (L : List (Nv × Nod)) (z : Int) (i : Nat) : cn L z i ≤ i := by
  have := List.length_filter_le (fun p : Nv × Nod => p.1.ino == z) (L.take i)
  unfold cn
  have h2 : (L.take i).length ≤ i := by simp; omega
  omega
/-- How many nodes are one with the x-th. -/
def lks (L : List (Nv × Nod)) (x : Int) : Int := if 0 ≤ x ∧ x < L.length then cn L (gl L x.toNat).1.ino L.length else 0
end Tre
set_option maxRecDepth 100000 in
set_option maxHeartbeats 1000000 in
theorem Links_any (a : Option Addr) (n c : Nat) (L : List (Nv × Nod)) (x : Int) (w : World) (hl : Ns w a n L) (hc : n ≤ c) (hcm : c ≤ 9223372036854775807) :
    Calls Try.prog 20 #[.slice a n c, .int .i64 x] w fun e w' => e = .returned (.int .i64 (lks L x)) ∧ Below w.heap.size w w' := by
  have HL := hide hl
  have HLN := hide hl.1
  by_cases hx0 : x < 0
  · have hd : decide (x < 0) = true := by simpa using hx0
    have HE : Hid ((0 : Int) = lks L x) := by show _ = _; unfold lks; rw [if_neg (by omega)]
    clear hl
    go_enter Try.func20, Try.ntmps20
    go_wp2
    go_ret
    exact ⟨ret_int HE.out, Below.refl _ _⟩
  · have hd : decide (x < 0) = false := by simpa using hx0
    by_cases hxn : x < n
    · have hd2 : decide (x ≥ (n : Int)) = false := by simp; omega
      have hd3 : decide ((n : Int) ≤ x) = false := by simp; omega
      obtain ⟨j, rfl⟩ : ∃ j : Nat, x = j := ⟨x.toNat, by omega⟩
      have hj : j < n := by omega
      have HE : Hid (lks L j = cn L (gl L j).1.ino n) := by show _ = _; unfold lks; rw [if_pos (by rw [HLN.out]; omega), HLN.out]; simp
      clear hl
      go_enter Try.func20, Try.ntmps20
      go_wp2
      go_loopw [5, 7, 18] (fun r5 _ r18 wr => ∃ i : Nat, r5 = .int .i64 (cn L (gl L j).1.ino i : Nat) ∧ r18 = .int .i64 i ∧ i ≤ n ∧ Below w.heap.size w wr) (fun _ _ r18 _ => n - (intOf r18).toNat)
      case atStart => exact ⟨0, by rw [cn_zero]; rfl, rfl, Nat.zero_le _, Below.refl _ _⟩
      case round =>
        obtain ⟨i, rfl, rfl, hi0, hbel⟩ := hrel
        have HB := hide hbel
        have hq := cn_le L (gl L j).1.ino i
        by_cases hi : i < n
        · have hd : decide ((i : Int) < n) = true := by simpa using hi
          have hil : i < L.length := by rw [HLN.out]; exact hi
          obtain ⟨ba, oa, rfl, hba, hca⟩ := (HL.out.below hbel).at (by omega)
          obtain ⟨c0, c1, c2, c3, c4, c5, c6, c7, c8, c9⟩ := hca i hi
          have cj : ∀ o, (wr.alloc o).cell? ⟨ba, oa + j * 10 + 1, none⟩ = some (.int .i64 (gl L j).1.ino) := fun o => (((Below.refl wr.heap.size wr).alloc (Nat.le_refl _) o).cell hba).trans (hca j hj).c1
          have i1 : (i : Int) < n := by omega
          have HS := hide (cn_succ L (gl L j).1.ino i hil)
          have e1 := hide (fun o : Obj => (HB.out.alloc hbel.size o))
          generalize (gl L j).1.ino = z at *
          generalize hq' : cn L z i = q at *
          generalize (gl L i).1 = v at *
          clear hca hbel hq'
          by_cases hz : v.ino = z
          · have hz1 : (v.ino == z) = true := by simpa using hz
            rw [hz1] at HS
            have hw : IntKind.i64.wrap ((q : Int) + 1) = (q : Int) + 1 := IntWalk.i64_in _ (by omega)
            clear hz
            go_wp2_with fail
            go_quiet (fail)
            go_wp2
            refine ⟨⟨i + 1, by rw [HS.out]; simp, by go_num, by omega, bdn (e1.out _) _⟩, by simp [intOf]; omega⟩
          · have hz1 : (v.ino == z) = false := by simpa using hz
            rw [hz1] at HS
            clear hz
            go_wp2_with fail
            go_quiet (fail)
            go_wp2
            refine ⟨⟨i + 1, by rw [HS.out]; simp, by go_num, by omega, bdn (e1.out _) _⟩, by simp [intOf]; omega⟩
        · have hd : decide ((i : Int) < n) = false := by simpa using hi
          obtain rfl : i = n := by omega
          clear hbel
          go_wp2
          go_ret
          exact ⟨ret_int HE.out.symm, HB.out⟩
    · have hd2 : decide (x ≥ (n : Int)) = true := by simp; omega
      have hd3 : decide ((n : Int) ≤ x) = true := by simp; omega
      have HE : Hid ((0 : Int) = lks L x) := by show _ = _; unfold lks; rw [if_neg (by rw [HLN.out]; omega)]
      clear hl
      go_enter Try.func20, Try.ntmps20
      go_wp2
      go_ret
      exact ⟨ret_int HE.out, Below.refl _ _⟩
set_option maxRecDepth 100000 in
set_option maxHeartbeats 1000000 in
theorem refLinks_any (a : Option Addr) (n c : Nat) (L : List (Nv × Nod)) (x : Int) (w : World) (hl : Ns w a n L) (hc : n ≤ c) (hcm : c ≤ 9223372036854775807) :
    Calls Try.prog 21 #[.slice a n c, .int .i64 x] w fun e w' => e = .returned (.int .i64 (lks L x)) ∧ ∃ q, w' = w.drewN q := by
  have HL := hide hl
  have HLN := hide hl.1
  by_cases hx : 0 ≤ x ∧ x < n
  · obtain ⟨j, rfl⟩ : ∃ j : Nat, x = j := ⟨x.toNat, by omega⟩
    have hj : j < n := by omega
    have hx1 : decide ((j : Int) ≥ 0) = true := by simp
    have hx2 : decide ((j : Int) < n) = true := by simp; omega
    have hx3 : (j : Int) < n := by omega
    have HE : Hid (lks L j = cn L (gl L j).1.ino n) := by show _ = _; unfold lks; rw [if_pos (by rw [HLN.out]; omega), HLN.out]; simp
    clear hl hx
    go_enter Try.func21, Try.ntmps21
    go_wp2
    go_loopw [5, 6] (fun r5 r6 wr => ∃ i q : Nat, wr = w.drewN q ∧ r5 = .int .i64 (cn L (gl L j).1.ino i : Nat) ∧ r6 = .int .i64 i ∧ i ≤ n) (fun _ r6 _ => n - (intOf r6).toNat)
    case atStart => exact ⟨0, 0, rfl, by rw [cn_zero]; rfl, rfl, Nat.zero_le _⟩
    case round =>
      obtain ⟨i, qd, rfl, rfl, rfl, hi0⟩ := hrel
      have hq := cn_le L (gl L j).1.ino i
      by_cases hi : i < n
      · have hd : decide ((i : Int) < n) = true := by simpa using hi
        have hil : i < L.length := by rw [HLN.out]; exact hi
        obtain ⟨ba, oa, rfl, hba, hca⟩ := HL.out.at (by omega)
        have ci := (hca i hi).c1
        have cj := (hca j hj).c1
        have i1 : (i : Int) < n := by omega
        have HS := hide (cn_succ L (gl L j).1.ino i hil)
        generalize (gl L j).1.ino = z at *
        generalize hq' : cn L z i = q at *
        generalize (gl L i).1.ino = v at *
        clear hca hq'
        by_cases hz : v = z
        · have hz1 : (v == z) = true := by simpa using hz
          rw [hz1] at HS
          have hw : IntKind.i64.wrap ((q : Int) + 1) = (q : Int) + 1 := IntWalk.i64_in _ (by omega)
          clear hz
          go_wp2_with fail
          go_quiet (fail)
          go_wp2
          refine ⟨⟨i + 1, _, rfl, by rw [HS.out]; simp, by go_num, by omega⟩, by simp [intOf]; omega⟩
        · have hz1 : (v == z) = false := by simpa using hz
          rw [hz1] at HS
          clear hz
          go_wp2_with fail
          go_quiet (fail)
          go_wp2
          refine ⟨⟨i + 1, _, rfl, by rw [HS.out]; simp, by go_num, by omega⟩, by simp [intOf]; omega⟩
      · have hd : decide ((i : Int) < n) = false := by simpa using hi
        obtain rfl : i = n := by omega
        go_wp2
        go_ret
        exact ⟨ret_int HE.out.symm, _, rfl⟩
  · have HE : Hid ((0 : Int) = lks L x) := by show _ = _; unfold lks; rw [if_neg (by rw [HLN.out]; exact hx)]
    clear hl
    by_cases h0 : n = 0
    · subst h0
      go_enter Try.func21, Try.ntmps21
      go_wp2
      refine wp_loop_rounds 1 ?_
      rw [rounds_succ]
      go_wp2
      go_ret
      exact ⟨ret_int HE.out, 0, rfl⟩
    · have hd : decide ((0 : Int) < n) = true := by simp; omega
      have hd0 : 0 < n := by omega
      by_cases hx0 : 0 ≤ x
      · have hx1 : decide (x ≥ 0) = true := by simpa using hx0
        have hx2 : decide (x < (n : Int)) = false := by simp; omega
        have hx3 : ¬ x < (n : Int) := by omega
        clear hx
        go_enter Try.func21, Try.ntmps21
        go_wp2
        refine wp_loop_rounds 1 ?_
        rw [rounds_succ]
        go_wp2
        go_ret
        exact ⟨ret_int HE.out, 0, rfl⟩
      · have hx1 : decide (x ≥ 0) = false := by simpa using hx0
        clear hx
        go_enter Try.func21, Try.ntmps21
        go_wp2
        refine wp_loop_rounds 1 ?_
        rw [rounds_succ]
        go_wp2
        go_ret
        exact ⟨ret_int HE.out, 0, rfl⟩
end Go.Proofs.Ytppmekmaclolbaa

/- What the proof stands on: TreCanon, TreOne, TreFacts, TreAgain, with what the proof reaches of it. -/
import Derived.Test.YtoohanojfoichaaGreatDoorSJTreSort
import Derived.Test.YtoohanojfoichaaGreatDoorSTreCheck

/- Layer 7: Canon. -/
namespace Go.Proofs.YtoohanojfoichaaGreatDoor
set_option linter.unusedVariables false
open Go.RowKit Go.Maps
open Nam Tre

namespace Tre
/-- Nodes in order, and numbered. -/
def IsCanon (l r : List Nod) : Prop := ∃ s, s.Perm l ∧ s.Pairwise (fun p q => ltn q p = false) ∧ r = numb s
theorem xs1_vals : ∀ (a : List UInt8) (xs : List (ByteArray × List Int)), xs1 a xs = true → ∀ y ∈ xs, y.2.length ≤ 200
  | _, [], _, y, hy => by simp at hy
  | a, x :: r, h, y, hy => by
    simp only [xs1, Bool.and_eq_true, decide_eq_true_eq] at h
    rcases List.mem_cons.1 hy with rfl | hy
    · exact h.1.2
    · exact xs1_vals _ r h.2 y hy
theorem may_lean {n : Nod} (h : may n = true) : n.data.length ≤ 4096 ∧ n.xs.length ≤ 8 ∧ ∀ y ∈ n.xs, y.2.length ≤ 200 := by
  simp only [may, Bool.and_eq_true] at h
  obtain ⟨⟨⟨h1, _⟩, h3⟩, _⟩ := h
  simp only [xsOk, Bool.and_eq_true, decide_eq_true_eq] at h3
  refine ⟨?_, h3.1, xs1_vals _ _ h3.2⟩
  unfold kdOk at h1
  split at h1
  · simp only [Bool.and_eq_true, decide_eq_true_eq] at h1; omega
  · split at h1
    · simp only [Bool.and_eq_true, decide_eq_true_eq] at h1; omega
    · split at h1
      · simp only [Bool.and_eq_true, decide_eq_true_eq] at h1; omega
      · cases h1
end Tre
theorem lean_of {w : World} {v : Nv} {x : Nod} (hr : Rep w v x) (hm : may x = true) (hs : x.names.length ≤ 16) : Lean1 v x := by
  obtain ⟨h1, h2, h3⟩ := may_lean hm
  exact ⟨by rw [← hr.names.1]; omega, by rw [← hr.data.1]; omega, by rw [← hr.xs.1]; omega, fun y hy => Nat.le_trans (h3 y hy) (by omega)⟩
/-- A whole node stored within a row. -/
def putAt (w : World) (b o : Nat) (u : Nv) : World := ((((((((((w.setCell ⟨b, o, none⟩ (.slice u.na u.nn u.nc)).setCell ⟨b, o + 1, none⟩ (.int .i64 u.ino)).setCell ⟨b, o + 2, none⟩ (.int .i64 u.kind)).setCell ⟨b, o + 3, none⟩ (.int .i64 u.mode)).setCell ⟨b, o + 4, none⟩ (.int .i64 u.uid)).setCell ⟨b, o + 5, none⟩ (.int .i64 u.gid)).setCell ⟨b, o + 6, none⟩ (.slice u.da u.dn u.dc)).setCell ⟨b, o + 7, none⟩ (.string u.tg)).setCell ⟨b, o + 8, none⟩ (.slice u.xa u.xn u.xc)).setCell ⟨b, o + 9, none⟩ (.bool u.op))
theorem putAt_other (w : World) (b o : Nat) (u : Nv) (i : Nat) (hi : i ≠ b) : (putAt w b o u).heap[i]? = w.heap[i]? := by
  unfold putAt
  rw [set_other _ _ _ _ _ hi, set_other _ _ _ _ _ hi, set_other _ _ _ _ _ hi, set_other _ _ _ _ _ hi, set_other _ _ _ _ _ hi, set_other _ _ _ _ _ hi, set_other _ _ _ _ _ hi, set_other _ _ _ _ _ hi, set_other _ _ _ _ _ hi, set_other _ _ _ _ _ hi]
theorem putAt_size (w : World) (b o : Nat) (u : Nv) : (putAt w b o u).heap.size = w.heap.size := by unfold putAt; simp
theorem putAt_but (w : World) (b o : Nat) (u : Nv) : But b w (putAt w b o u) := ⟨by rw [putAt_size]; omega, fun i _ hne => putAt_other w b o u i hne⟩
theorem putAt_below {w w' : World} {B b o : Nat} (h : Below B w w') (hr : B ≤ b) (u : Nv) : Below B w (putAt w' b o u) :=
  ((((((((((h.setCell (p := ⟨b, o, none⟩) hr _).setCell (p := ⟨b, o + 1, none⟩) hr _).setCell (p := ⟨b, o + 2, none⟩) hr _).setCell (p := ⟨b, o + 3, none⟩) hr _).setCell (p := ⟨b, o + 4, none⟩) hr _).setCell (p := ⟨b, o + 5, none⟩) hr _).setCell (p := ⟨b, o + 6, none⟩) hr _).setCell (p := ⟨b, o + 7, none⟩) hr _).setCell (p := ⟨b, o + 8, none⟩) hr _).setCell (p := ⟨b, o + 9, none⟩) hr _)
theorem nvs_put (V : List Nv) (i : Nat) (u : Nv) (h : i < V.length) : ((((((((((nvs V).set (i * 10) (.slice u.na u.nn u.nc)).set (i * 10 + 1) (.int .i64 u.ino)).set (i * 10 + 2) (.int .i64 u.kind)).set (i * 10 + 3) (.int .i64 u.mode)).set (i * 10 + 4) (.int .i64 u.uid)).set (i * 10 + 5) (.int .i64 u.gid)).set (i * 10 + 6) (.slice u.da u.dn u.dc)).set (i * 10 + 7) (.string u.tg)).set (i * 10 + 8) (.slice u.xa u.xn u.xc)).set (i * 10 + 9) (.bool u.op) = nvs (V.set i u) := by
  induction V generalizing i with
  | nil => simp at h
  | cons v r ih =>
    have e : ∀ y l, nvs (y :: l) = y.cells.toList ++ nvs l := by simp [nvs]
    cases i with
    | zero =>
      rw [e, List.set_cons_zero, e]
      rfl
    | succ i =>
      have hs : ∀ (l : List Value) (k : Nat) (z : Value), (v.cells.toList ++ l).set ((i + 1) * 10 + k) z = v.cells.toList ++ l.set (i * 10 + k) z := fun l k z => by
        rw [List.set_append_right _ _ (by rw [cells_length]; omega), cells_length, show (i + 1) * 10 + k - 10 = i * 10 + k by omega]
      have hs0 : ∀ (l : List Value) (z : Value), (v.cells.toList ++ l).set ((i + 1) * 10) z = v.cells.toList ++ l.set (i * 10) z := fun l z => hs l 0 z
      rw [e, hs0, hs, hs, hs, hs, hs, hs, hs, hs, hs, List.set_cons_succ, e, ← ih i (by simpa using h)]
theorem own_put {w : World} {B g cap n i : Nat} {V : List Nv} (h : w.ownsRow B 48 10 (.slice (some ⟨g, 0, none⟩) n cap) n (nvs V)) (hi : i < n) (u : Nv) : (putAt w g (i * 10) u).ownsRow B 48 10 (.slice (some ⟨g, 0, none⟩) n cap) n (nvs (V.set i u)) := by
  have hl : V.length = n := by have := h.1; rw [nvs_length] at this; omega
  have h0 := (h.stored (i * 10) (.slice u.na u.nn u.nc)).1
  have h1 := (h0.stored (i * 10 + 1) (.int .i64 u.ino)).1
  have h2 := (h1.stored (i * 10 + 2) (.int .i64 u.kind)).1
  have h3 := (h2.stored (i * 10 + 3) (.int .i64 u.mode)).1
  have h4 := (h3.stored (i * 10 + 4) (.int .i64 u.uid)).1
  have h5 := (h4.stored (i * 10 + 5) (.int .i64 u.gid)).1
  have h6 := (h5.stored (i * 10 + 6) (.slice u.da u.dn u.dc)).1
  have h7 := (h6.stored (i * 10 + 7) (.string u.tg)).1
  have h8 := (h7.stored (i * 10 + 8) (.slice u.xa u.xn u.xc)).1
  have h9 := (h8.stored (i * 10 + 9) (.bool u.op)).1
  rw [nvs_put V i u (by omega)] at h9
  exact h9
theorem made_nodes (n : Nat) : (madeCells (Nv.cells nv0) (n * 10)).toList = nvs (List.replicate n nv0) := by
  apply List.ext_getElem?
  intro t
  by_cases ht : t < n * 10
  · rw [nvs_flat _ t (by simpa using ht)]
    simp only [List.getElem_replicate]
    have hc : t % 10 < (Nv.cells nv0).size := by show t % 10 < 10; omega
    simp [madeCells, ht, Nv.cells]
    rw [List.getElem?_eq_getElem (by show t % 10 < 10; omega)]
    rfl
  · rw [List.getElem?_eq_none (by simp [madeCells]; omega), List.getElem?_eq_none (by rw [nvs_length, List.length_replicate]; omega)]
/-- The row with the first i nodes copied. -/
structure CP (w wr : World) (blk n : Nat) (L C : List (Nv × Nod)) (i : Nat) : Prop where
  row : wr.ownsRow w.heap.size 48 10 (.slice (some ⟨blk, 0, none⟩) n n) n (nvs (C.map (·.1) ++ List.replicate (n - i) nv0))
  len : C.length = i
  nds : C.map (·.2) = (nds L).take i
  good : ∀ p ∈ C, Good wr blk p
  bel : Below w.heap.size w wr
theorem CP.step {w wr w1 w2 : World} {blk n i : Nat} {L C : List (Nv × Nod)} (h : CP w wr blk n L C i) (hL : L.length = n) (hi : i < n) (h1 : Below wr.heap.size wr w1) (h2 : Below w1.heap.size w1 w2) (u : Nv) (hr : Rep w2 u (gl L i).2) (ha : Abv w2 w1.heap.size u) (hf : (gl L i).2.names.length ≤ 1000000) :
    CP w (putAt w2 blk (i * 10) u) blk n L (C ++ [(u, (gl L i).2)]) (i + 1) := by
  have hblk := h.row.lt blk rfl
  have h12 : Below wr.heap.size wr w2 := h1.trans (h2.mono h1.size)
  have s1 := h1.size
  have row2 := owns_below h.row h12
  have hbut : But blk w2 (putAt w2 blk (i * 10) u) := putAt_but _ _ _ _
  refine ⟨?_, by simp [h.len], ?_, ?_, putAt_below (h.bel.trans (h12.mono h.bel.size)) hblk.1 u⟩
  · have := own_put row2 hi u
    have e : (List.map (fun x : Nv × Nod => x.fst) C ++ List.replicate (n - i) nv0).set i u = List.map (fun x : Nv × Nod => x.fst) (C ++ [(u, (gl L i).2)]) ++ List.replicate (n - (i + 1)) nv0 := by
      rw [List.set_append_right _ _ (by simp [h.len]), List.length_map, h.len, Nat.sub_self, show n - i = (n - (i + 1)) + 1 by omega, List.replicate_succ, List.set_cons_zero]
      simp
    rw [e] at this
    exact this
  · rw [List.map_append, h.nds, nds_take L i (by omega)]; rfl
  · intro p hp
    rcases List.mem_append.1 hp with hp | hp
    · exact ((h.good p hp).but (But.of_below h12)).but hbut
    · rw [List.mem_singleton] at hp
      subst hp
      have hg : Good w2 blk (u, (gl L i).2) := ⟨hr, ⟨fun a e => Nat.le_trans (by omega) (ha.na a e), fun a e => Nat.le_trans (by omega) (ha.da a e), fun a e => Nat.le_trans (by omega) (ha.xa a e), fun b off hb j hj va vn vc hc a e => Nat.le_trans (by omega) (ha.xs b off hb j hj va vn vc hc a e)⟩, hf⟩
      exact hg.but hbut
set_option maxRecDepth 100000 in
set_option maxHeartbeats 1000000 in
theorem Canon_ok (a : Option Addr) (n c : Nat) (L : List (Nv × Nod)) (w : World) (hl : Ns w a n L) (hc : n ≤ c) (hcm : c ≤ 9223372036854775807) (h0 : check (nds L) = 0) :
    Calls Tryz.prog 14 #[.slice a n c] w fun e w' => ∃ blk L', e = .returned (.tuple #[.slice (some ⟨blk, 0, none⟩) n n, .int .i64 0]) ∧ w'.ownsRow w.heap.size 48 10 (.slice (some ⟨blk, 0, none⟩) n n) n (nvs (L'.map (·.1))) ∧ (∀ p ∈ L', Good w' blk p) ∧ IsCanon (nds L) (nds L') ∧ Below w.heap.size w w' := by
  obtain ⟨k1, k2, k3, k4, k5, k6, k7, k8⟩ := check_zero h0
  have hLn := hl.1
  have hn1 : n ≤ 1024 := by rw [nds_length, hLn] at k1; exact k1
  have hn0 : 0 < n := by
    rcases Nat.eq_zero_or_pos n with e | e
    · rw [e] at hLn
      have : L = [] := List.eq_nil_of_length_eq_zero hLn
      rw [this] at k5; simp [nds, isDir] at k5
    · exact e
  have HC := hide (Check_any a n c L w hl hc hcm)
  rw [h0] at HC
  have HL := hide hl
  have HLN := hide hLn
  have HSH := hide (short_of k2 k3)
  have HMA : Hid (∀ x ∈ nds L, may x = true) := List.all_eq_true.1 k7
  obtain ⟨i0, hi0', hz0, hz1, hz2⟩ := info_parts infoNode
  have hn' : (n : Int) ≤ 1024 := by omega
  clear hl h0 k1 k2 k3 k4 k5 k6 k7 k8 hLn
  go_enter Tryz.func14, Tryz.ntmps14
  go_wp2_with (go_at_call 30; refine HC.out.mono ?_)
  rintro e w1 ⟨rfl, hb1⟩
  obtain ⟨w2, mk, own2, gr2⟩ := run_make_full (P := Tryz.prog) w1 w.heap.size 22 48 i0 (.agg (Nv.cells nv0)) 10 Tryz.underlying22 hi0' hz0 hz1 .i64 .i64 n (by rw [hz2]; omega) (by unfold maxLen; omega) hb1.size
  obtain ⟨blk, hblk⟩ : ∃ blk, blk = w1.heap.size := ⟨_, rfl⟩
  rw [← hblk] at mk own2
  clear hblk
  have HCP : Hid (CP w w2 blk n L [] 0) := by
    refine ⟨?_, rfl, by simp, fun p hp => by simp at hp, hb1.trans (grownBy_below gr2 hb1.size)⟩
    have e : (madeCells (Value.agg (Nv.cells nv0)).cells (n * 10)).toList = nvs (List.replicate n nv0) := made_nodes n
    rw [e] at own2
    simpa using own2
  clear hb1 own2 gr2 hi0' hz0 hz1 hz2 HC
  go_wp2
  go_loopw [6, 7, 18] (fun _ _ r wr => ∃ (i : Nat) (C : List (Nv × Nod)), r = .int .i64 i ∧ i ≤ n ∧ CP w wr blk n L C i) (fun _ _ r _ => n - (intOf r).toNat)
  case atStart => exact ⟨0, [], rfl, Nat.zero_le _, HCP.out⟩
  case round =>
    obtain ⟨i, C, rfl, hi0, hcp⟩ := hrel
    have HP := hide hcp
    by_cases hi : i < n
    · have hd : decide ((i : Int) < n) = true := by simpa using hi
      obtain ⟨ba, oa, rfl, hba, hca⟩ := (HL.out.below hcp.bel).at (by omega)
      obtain ⟨c0, c1, c2, c3, c4, c5, c6, c7, c8, c9⟩ := hca i hi
      have hmem := gl_mem L i (by rw [HLN.out]; exact hi)
      have hr := (HL.out.below hcp.bel).rep i hi
      have hsh := HSH.out _ (nds_mem hmem)
      have HCC : Hid (∀ o, Calls Tryz.prog 31 #[.agg (gl L i).1.cells] (wr.alloc o) fun e w' => ∃ v', e = .returned (.agg v'.cells) ∧ Rep w' v' (gl L i).2 ∧ Abv w' (wr.alloc o).heap.size v' ∧ Below (wr.alloc o).heap.size (wr.alloc o) w') := fun o =>
        copied_any (gl L i).1 (gl L i).2 (wr.alloc o) (hr.below ((Below.refl _ _).alloc (Nat.le_refl _) _)) (lean_of hr (HMA.out _ (nds_mem hmem)) hsh.1)
      have hfw : (gl L i).2.names.length ≤ 1000000 := by have := hsh.1; omega
      have hi1 : (i : Int) < n := by omega
      have bel1 : Hid (∀ o, Below wr.heap.size wr (wr.alloc o)) := fun o => (Below.refl _ _).alloc (Nat.le_refl _) _
      simp only [Nv.cells] at HCC
      clear hcp hca hr hsh mk
      go_wp2_with (go_at_call 31; refine (HCC.out _).mono ?_)
      rintro e w3 ⟨u, rfl, hru, hau, hb3⟩
      have HST := hide (HP.out.step HLN.out hi (bel1.out _) hb3 u hru hau hfw)
      have row3 := owns_below HP.out.row ((bel1.out _).trans (hb3.mono (bel1.out _).size))
      obtain ⟨b', off', hbo, hb', hat⟩ := (sh_of_owns row3).at (by omega)
      obtain ⟨rfl, rfl⟩ : blk = b' ∧ 0 = off' := by simpa using hbo
      obtain ⟨o, hat2⟩ : ∃ o, NodAt w3 blk (i * 10) o := ⟨_, by have := hat i hi; rw [Nat.zero_add] at this; exact this⟩
      obtain ⟨d0, d1, d2, d3, d4, d5, d6, d7, d8, d9⟩ := hat2
      have z0 := row3.frozenAt (i * 10)
      have z1 := row3.frozenAt (i * 10 + 1)
      have z2 := row3.frozenAt (i * 10 + 2)
      have z3 := row3.frozenAt (i * 10 + 3)
      have z4 := row3.frozenAt (i * 10 + 4)
      have z5 := row3.frozenAt (i * 10 + 5)
      have z6 := row3.frozenAt (i * 10 + 6)
      have z7 := row3.frozenAt (i * 10 + 7)
      have z8 := row3.frozenAt (i * 10 + 8)
      have z9 := row3.frozenAt (i * 10 + 9)
      clear hat row3 hbo hru hau hb3 c0 c1 c2 c3 c4 c5 c6 c7 c8 c9 HCC
      go_wp2
      exact ⟨⟨i + 1, _, by go_num, by omega, HST.out⟩, by simp [intOf]; omega⟩
    · have hd : decide ((i : Int) < n) = false := by simpa using hi
      obtain rfl : i = n := by omega
      have hrow : wr.ownsRow w.heap.size 48 10 (.slice (some ⟨blk, 0, none⟩) i i) i (nvs (C.map (·.1))) := by
        have := hcp.row
        rw [Nat.sub_self] at this
        simpa using this
      have hnd : nds C = nds L := by
        have := hcp.nds
        rw [List.take_of_length_le (by rw [nds_length, HLN.out]; omega)] at this
        exact this
      have HSO := hide (SortNodes_any blk i i w.heap.size C wr hrow hn0 (by omega) hcp.good)
      have hblk2 := (hrow.lt blk rfl)
      clear hcp mk hrow
      go_wp2_with (go_at_call 32; refine HSO.out.mono ?_)
      rintro e w4 ⟨rfl, L4, hp4, hs4, own4, good4, but4, q1, q2, q3⟩
      have E4 : Hid (Below w.heap.size w w4) := HP.out.bel.trans ⟨q1, q2, q3, but4.1, fun j hj => but4.2 j (by omega) (by omega)⟩
      have HNU := hide (numberInos_any blk i i w.heap.size L4 w4 own4 (by omega) good4)
      have hL4 : L4.length = i := by rw [hp4.length_eq]; have := congrArg List.length hnd; rw [nds_length, nds_length, HLN.out] at this; exact this
      have HIC : Hid (IsCanon (nds L) (nds (rl (ikeys (nds L4)) L4 i))) := by
        refine ⟨nds L4, ?_, ?_, ?_⟩
        · rw [← hnd]; exact hp4.map _
        · rw [nds, List.pairwise_map]; exact hs4
        · rw [← hL4]; exact rl_end L4
      have HG4 : Hid (∀ p ∈ rl (ikeys (nds L4)) L4 i, Good w4 blk p) := by
        intro p hp
        obtain ⟨j, hj, rfl⟩ := List.getElem_of_mem hp
        rw [rl_length] at hj
        have := rl_get (ikeys (nds L4)) L4 i (by omega) j
        rw [gl_lt _ _ (by rw [rl_length]; exact hj), if_pos (by omega)] at this
        rw [this]
        have hnb := (nno_range (ikeys_lit (nds L4)) (i := j) (by rw [ikeys_length, nds_length]; exact hj)).2
        have hnl := nst_le (ikeys (nds L4)) (j + 1)
        exact good_rn (good4 _ (gl_mem L4 j hj)) _ (by omega)
      have hs4' := but4.1
      clear hp4 hs4 own4 good4 but4 q1 q2 q3 hnd HSO
      go_wp2_with (go_at_call 34; refine HNU.out.mono ?_)
      rintro e w5 ⟨rfl, hni⟩
      have HNI := hide hni
      clear hni
      go_wp2
      go_ret2
      refine ⟨blk, rl (ikeys (nds L4)) L4 i, rfl, HNI.out.row, fun p hp => (HG4.out p hp).but HNI.out.but, HIC.out, ?_⟩
      exact E4.out.trans (HNI.out.bel.mono hblk2.1)
theorem Canon_no (a : Option Addr) (n c : Nat) (L : List (Nv × Nod)) (w : World) (hl : Ns w a n L) (hc : n ≤ c) (hcm : c ≤ 9223372036854775807) (z : Int) (hz : check (nds L) = z) (h0 : z ≠ 0) :
    Calls Tryz.prog 14 #[.slice a n c] w fun e w' => e = .returned (.tuple #[.slice none 0 0, .int .i64 z]) ∧ Below w.heap.size w w' := by
  have HC := hide (Check_any a n c L w hl hc hcm)
  rw [hz] at HC
  have h1 : (z != 0) = true := by simpa using h0
  clear hl hz
  go_enter Tryz.func14, Tryz.ntmps14
  go_wp2_with (go_at_call 30; refine HC.out.mono ?_; rintro e w1 ⟨rfl, hb1⟩)
  go_ret2
  exact ⟨rfl, hb1⟩
end Go.Proofs.YtoohanojfoichaaGreatDoor

/- Layer 7, on lists alone: nodes in order are so in one way. -/
namespace Go.Proofs.YtoohanojfoichaaGreatDoor
set_option linter.unusedVariables false
open Go.RowKit Go.Maps
open Nam Tre

namespace Tre
theorem names_inj : ∀ {l : List Nod}, (l.map Nod.names).Nodup → ∀ a ∈ l, ∀ b ∈ l, a.names = b.names → a = b
  | [], _, a, ha, _, _, _ => by simp at ha
  | n :: r, h, a, ha, b, hb, e => by
    rw [List.map_cons, List.nodup_cons] at h
    rcases List.mem_cons.1 ha with h1 | h1 <;> rcases List.mem_cons.1 hb with h2 | h2
    · rw [h1, h2]
    · exact absurd (List.mem_map.2 ⟨b, h2, by rw [← e, h1]⟩) h.1
    · exact absurd (List.mem_map.2 ⟨a, h1, by rw [e, h2]⟩) h.1
    · exact names_inj h.2 a h1 b h2 e
end Tre
end Go.Proofs.YtoohanojfoichaaGreatDoor

/- Layer 7, on lists alone: what holds of a canonical row. -/
namespace Go.Proofs.YtoohanojfoichaaGreatDoor
set_option linter.unusedVariables false
open Go.RowKit Go.Maps
open Nam Tre

namespace Tre
theorem isDir_mem {l : List Nod} {m : List ByteArray} (h : isDir l m = true) : ∃ n ∈ l, n.names = m ∧ n.kind = 1 := by
  unfold isDir at h
  cases hf : l.find? (fun n => decide (n.names = m)) with
  | none => rw [hf] at h; cases h
  | some n =>
    rw [hf] at h
    exact ⟨n, List.mem_of_find?_eq_some hf, by simpa using List.find?_some hf, by simpa using h⟩
/-- The node at a place. -/
def gn (r : List Nod) (i : Nat) : Nod := r.getD i nod0
theorem gn_lt (r : List Nod) (i : Nat) (h : i < r.length) : gn r i = r[i] := by simp [gn, h]
/-- The greatest Ino of the first i. -/
def tp (r : List Nod) : Nat → Int
  | 0 => 0
  | i + 1 => max (tp r i) (gn r i).ino
theorem gn_numb (s : List Nod) (i : Nat) (h : i < s.length) : gn (numb s) i = { s[i] with ino := (nno (ikeys s) i : Int) } := by
  rw [gn_lt _ _ (by rw [numb_length]; exact h)]; exact numb_get s i h
theorem tp_numb (s : List Nod) : ∀ i, i ≤ s.length → tp (numb s) i = ((nst (ikeys s) i).1 : Int)
  | 0, _ => rfl
  | i + 1, h => by
    have hl : i < (ikeys s).length := by rw [ikeys_length]; omega
    rw [tp, tp_numb s i (by omega), gn_numb s i (by omega)]
    show max _ ((nno (ikeys s) i : Nat) : Int) = _
    by_cases hm : (ikeys s)[i] ∈ (ikeys s).take i
    · have h1 := nst_same (ikeys_lit s) hl hm
      have h2 := (nno_range (ikeys_lit s) hl).2
      rw [h1] at h2 ⊢
      omega
    · obtain ⟨h1, h2⟩ := nno_new (ikeys_lit s) hl hm
      rw [h1, h2]; omega
/-- What holds of a canonical row. -/
structure CanF (l r : List Nod) : Prop where
  len : r.length = l.length
  pos : 0 < r.length
  root : (gn r 0).names = []
  ord : ∀ i, 0 < i → i < r.length → ltn (gn r (i - 1)) (gn r i) = true
  ino : ∀ i, i < r.length → 1 ≤ (gn r i).ino ∧ (gn r i).ino ≤ tp r i + 1
  top : ∀ i, i ≤ r.length → 0 ≤ tp r i ∧ tp r i ≤ i
  par : ∀ i, i < r.length → (gn r i).names ≠ [] → ∃ k, k < i ∧ (gn r k).names = (gn r i).names.dropLast ∧ (gn r k).kind = 1
theorem less_drop {m : List ByteArray} (h : m ≠ []) : less (nm m.dropLast) (nm m) = true := by
  have e : m = m.dropLast ++ [m.getLast h] := (List.dropLast_concat_getLast h).symm
  conv => lhs; arg 2; rw [e]
  rw [nm_append]
  exact less_append _ _ _
theorem canF {l r : List Nod} (h0 : check l = 0) (h : IsCanon l r) : CanF l r := by
  obtain ⟨k1, k2, k3, k4, k5, k6, k7, k8⟩ := check_zero h0
  obtain ⟨s, hp, ho, rfl⟩ := h
  have hnd : (s.map Nod.names).Nodup := (hp.map Nod.names).nodup_iff.2 k4
  have hst : ∀ i j (hi : i < s.length) (hj : j < s.length), i < j → ltn s[i] s[j] = true := fun i j hi hj hij => by
    have h1 : ltn s[j] s[i] = false := List.pairwise_iff_getElem.1 ho i j hi hj hij
    have hne : s[i].names ≠ s[j].names := fun e => by
      have := List.pairwise_iff_getElem.1 hnd i j (by simpa using hi) (by simpa using hj) hij
      simp at this
      exact this e
    rcases less_total (nm s[i].names) (nm s[j].names) (fun q => hne (nm_inj q)) with q | q
    · exact q
    · rw [show ltn s[j] s[i] = true from q] at h1; cases h1
  have hlt : ∀ i j (hi : i < s.length) (hj : j < s.length), ltn s[i] s[j] = true → i < j := fun i j hi hj h => by
    rcases Nat.lt_trichotomy i j with q | q | q
    · exact q
    · subst q; rw [show ltn s[i] s[i] = false from less_irrefl _] at h; cases h
    · have := hst j i hj hi q
      rw [less_asymm _ _ (show less (nm s[j].names) (nm s[i].names) = true from this) |> (show ltn s[i] s[j] = false from ·)] at h; cases h
  have hmem : ∀ n ∈ l, ∃ j, ∃ (hj : j < s.length), s[j] = n := fun n hn => by
    obtain ⟨j, hj, e⟩ := List.getElem_of_mem (hp.mem_iff.2 hn)
    exact ⟨j, hj, e⟩
  obtain ⟨n0, hn0, hn1, hn2⟩ := isDir_mem k5
  obtain ⟨j0, hj0, hj1⟩ := hmem n0 hn0
  have hz : j0 = 0 := by
    rcases Nat.eq_zero_or_pos j0 with q | q
    · exact q
    · have := hst 0 j0 (by omega) hj0 q
      rw [hj1] at this
      unfold ltn at this
      rw [hn1] at this
      have e : less (nm (s[0]'(by omega)).names) (nm []) = false := less_end_right _
      rw [e] at this; cases this
  have hpos : 0 < s.length := by omega
  refine ⟨by rw [numb_length]; exact hp.length_eq, by rw [numb_length]; exact hpos, ?_, ?_, ?_, ?_, ?_⟩
  · rw [gn_numb s 0 hpos]
    subst hz
    show s[0].names = []
    rw [hj1]; exact hn1
  · intro i hi hl
    rw [numb_length] at hl
    rw [gn_numb s (i - 1) (by omega), gn_numb s i hl]
    exact hst (i - 1) i (by omega) hl (by omega)
  · intro i hi
    rw [numb_length] at hi
    have hl : i < (ikeys s).length := by rw [ikeys_length]; omega
    rw [tp_numb s i (by omega), gn_numb s i hi]
    show 1 ≤ ((nno (ikeys s) i : Nat) : Int) ∧ ((nno (ikeys s) i : Nat) : Int) ≤ _
    have hr := nno_range (ikeys_lit s) hl
    by_cases hm : (ikeys s)[i] ∈ (ikeys s).take i
    · have h1 := nst_same (ikeys_lit s) hl hm
      omega
    · obtain ⟨h1, h2⟩ := nno_new (ikeys_lit s) hl hm
      omega
  · intro i hi
    rw [numb_length] at hi
    rw [tp_numb s i hi]
    have := nst_le (ikeys s) i
    omega
  · intro i hi hne
    rw [numb_length] at hi
    rw [gn_numb s i hi] at hne ⊢
    have hne' : s[i].names ≠ [] := hne
    have hd := List.all_eq_true.1 k6 s[i] (hp.mem_iff.1 (List.getElem_mem hi))
    unfold inDir at hd
    rw [decide_eq_false (by intro q; exact hne' (List.eq_nil_of_length_eq_zero q)), Bool.false_or] at hd
    obtain ⟨n, hn, e1, e2⟩ := isDir_mem hd
    obtain ⟨k, hk, e3⟩ := hmem n hn
    have hki : k < i := hlt k i hk hi (by unfold ltn; rw [e3, e1]; exact less_drop hne')
    refine ⟨k, hki, ?_, ?_⟩
    · rw [gn_numb s k hk]; show s[k].names = _; rw [e3]; exact e1
    · rw [gn_numb s k hk]; show s[k].kind = 1; rw [e3]; exact e2
end Tre
theorem gn_nds (L : List (Nv × Nod)) (i : Nat) (h : i < L.length) : gn (nds L) i = (gl L i).2 := by
  rw [gn_lt _ _ (by rw [nds_length]; exact h), gl_lt L i h]; simp [nds]
end Go.Proofs.YtoohanojfoichaaGreatDoor

/- Layer 7, on lists alone: Check and Canon of the same nodes in another order, with other Inos. -/
namespace Go.Proofs.YtoohanojfoichaaGreatDoor
set_option linter.unusedVariables false
open Go.RowKit Go.Maps
open Nam Tre

namespace Tre
theorem wrong_of : ∀ (l : List Nod), (∀ n ∈ l, fv n.names = 0) → wrong l = 0
  | [], _ => rfl
  | a :: r, h => by
    unfold wrong
    rw [if_pos (h a (by simp))]
    exact wrong_of r (fun n hn => h n (by simp [hn]))
theorem isDir_of {l : List Nod} {m : List ByteArray} (hd : (l.map Nod.names).Nodup) {n : Nod} (hn : n ∈ l) (h1 : n.names = m) (h2 : n.kind = 1) : isDir l m = true := by
  unfold isDir
  cases hf : l.find? (fun n => decide (n.names = m)) with
  | none =>
    have := List.find?_eq_none.1 hf n hn
    simp [h1] at this
  | some p =>
    have hp := List.mem_of_find?_eq_some hf
    have he : p.names = m := by simpa using List.find?_some hf
    have : p = n := names_inj hd p hp n hn (he.trans h1.symm)
    rw [this]; simpa using h2
/-- What a row without a fault has. -/
structure Whole (l : List Nod) : Prop where
  len : l.length ≤ 1024
  wrong : ∀ n ∈ l, fv n.names = 0
  deep : ∀ n ∈ l, deep n = false
  nodup : (l.map Nod.names).Nodup
  root : ∃ n ∈ l, n.names = [] ∧ n.kind = 1
  dirs : ∀ n ∈ l, n.names ≠ [] → ∃ p ∈ l, p.names = n.names.dropLast ∧ p.kind = 1
  may : ∀ n ∈ l, may n = true
  one : l.Pairwise one
theorem whole_of {l : List Nod} (h : check l = 0) : Whole l := by
  obtain ⟨k1, k2, k3, k4, k5, k6, k7, k8⟩ := check_zero h
  refine ⟨k1, wrong_zero l k2, fun n hn => ?_, k4, isDir_mem k5, fun n hn hne => ?_, List.all_eq_true.1 k7, k8⟩
  · cases hq : deep n with
    | false => rfl
    | true => rw [List.any_eq_true.2 ⟨n, hn, hq⟩] at k3; cases k3
  · have hd := List.all_eq_true.1 k6 n hn
    unfold inDir at hd
    rw [decide_eq_false (by intro q; exact hne (List.eq_nil_of_length_eq_zero q)), Bool.false_or] at hd
    exact isDir_mem hd
theorem of_whole {l : List Nod} (h : Whole l) : check l = 0 := by
  unfold check
  have h2 : wrong l = 0 := wrong_of l h.wrong
  have h3 : l.any deep = false := by
    rw [List.any_eq_false]; intro n hn; rw [h.deep n hn]; simp
  obtain ⟨n0, r1, r2, r3⟩ := h.root
  have h5 : isDir l [] = true := isDir_of h.nodup r1 r2 r3
  have h6 : l.all (inDir l) = true := by
    rw [List.all_eq_true]
    intro n hn
    unfold inDir
    by_cases e : n.names = []
    · simp [e]
    · obtain ⟨p, p1, p2, p3⟩ := h.dirs n hn e
      rw [isDir_of h.nodup p1 p2 p3]; simp
  have h7 : l.all may = true := List.all_eq_true.2 h.may
  rw [if_neg (by have := h.len; omega), if_neg (by rw [h2]; simp), if_neg (by rw [h3]; simp), if_neg (fun q => q h.nodup), if_neg (by rw [h5]; simp), if_neg (by rw [h6]; simp), if_neg (by rw [h7]; simp), if_neg (fun q => q h.one)]
theorem check_whole {l : List Nod} : check l = 0 ↔ Whole l := ⟨whole_of, of_whole⟩
theorem one_symm {a b : Nod} (h : one a b) : one b a := fun e => by
  obtain ⟨h1, h2⟩ := h e.symm
  exact ⟨by rw [((alike_iff a b).1 h2).1]; exact h1, alike_symm h2⟩
theorem Whole.perm {l m : List Nod} (h : Whole l) (hp : m.Perm l) : Whole m where
  len := by rw [hp.length_eq]; exact h.len
  wrong n hn := h.wrong n (hp.mem_iff.1 hn)
  deep n hn := h.deep n (hp.mem_iff.1 hn)
  nodup := (hp.map Nod.names).nodup_iff.2 h.nodup
  root := by
    obtain ⟨n, h1, h2⟩ := h.root
    exact ⟨n, hp.mem_iff.2 h1, h2⟩
  dirs n hn hne := by
    obtain ⟨p, h1, h2⟩ := h.dirs n (hp.mem_iff.1 hn) hne
    exact ⟨p, hp.mem_iff.2 h1, h2⟩
  may n hn := h.may n (hp.mem_iff.1 hn)
  one := (hp.pairwise_iff (fun h => one_symm h)).2 h.one
/-- A node with another Ino. -/
def ri (f : Int → Int) (n : Nod) : Nod := { n with ino := f n.ino }
def InjOn (f : Int → Int) (l : List Nod) : Prop := ∀ a ∈ l, ∀ b ∈ l, f a.ino = f b.ino → a.ino = b.ino
theorem names_ri (f : Int → Int) (l : List Nod) : (l.map (ri f)).map Nod.names = l.map Nod.names := by rw [List.map_map]; rfl
theorem whole_ri {f : Int → Int} {l : List Nod} (hf : InjOn f l) : Whole (l.map (ri f)) ↔ Whole l := by
  have mem : ∀ {n}, n ∈ l.map (ri f) ↔ ∃ a ∈ l, ri f a = n := fun {n} => List.mem_map
  constructor
  · intro h
    refine ⟨by simpa using h.len, fun n hn => h.wrong (ri f n) (List.mem_map_of_mem hn), fun n hn => h.deep (ri f n) (List.mem_map_of_mem hn), by rw [← names_ri f]; exact h.nodup, ?_, ?_, fun n hn => h.may (ri f n) (List.mem_map_of_mem hn), ?_⟩
    · obtain ⟨n, h1, h2⟩ := h.root
      obtain ⟨a, ha, rfl⟩ := mem.1 h1
      exact ⟨a, ha, h2⟩
    · intro n hn hne
      obtain ⟨p, h1, h2⟩ := h.dirs _ (List.mem_map_of_mem hn) hne
      obtain ⟨a, ha, rfl⟩ := mem.1 h1
      exact ⟨a, ha, h2⟩
    · have := h.one
      rw [List.pairwise_map] at this
      exact this.imp fun {a b} h e => h (by show f a.ino = f b.ino; rw [e])
  · intro h
    refine ⟨by simpa using h.len, fun n hn => ?_, fun n hn => ?_, by rw [names_ri f]; exact h.nodup, ?_, ?_, fun n hn => ?_, ?_⟩
    · obtain ⟨a, ha, rfl⟩ := mem.1 hn; exact h.wrong a ha
    · obtain ⟨a, ha, rfl⟩ := mem.1 hn; exact h.deep a ha
    · obtain ⟨n, h1, h2⟩ := h.root
      exact ⟨_, List.mem_map_of_mem h1, h2⟩
    · intro n hn hne
      obtain ⟨a, ha, rfl⟩ := mem.1 hn
      obtain ⟨p, h1, h2⟩ := h.dirs a ha hne
      exact ⟨_, List.mem_map_of_mem h1, h2⟩
    · obtain ⟨a, ha, rfl⟩ := mem.1 hn; exact h.may a ha
    · rw [List.pairwise_map]
      exact h.one.imp_of_mem fun {a b} ha hb h e => h (hf a ha b hb e)
theorem ikeys_get (l : List Nod) (i : Nat) (h : i < l.length) : (ikeys l)[i]'(by rw [ikeys_length]; exact h) = .int .i64 l[i].ino := by simp [ikeys]
theorem nst_inj {ks : List Lit} (hk : ∀ k ∈ ks, WideAt.IsKeyLit k) : ∀ i, i ≤ ks.length → ∀ k k' z, (nst ks i).2 k = some z → (nst ks i).2 k' = some z → k = k'
  | 0, _, k, k', z, h, _ => by simp [nst] at h
  | i + 1, hi, k, k', z, h, h' => by
    have hi' : i < ks.length := by omega
    obtain ⟨hg, hl⟩ := getD_lit hk hi'
    by_cases h2 : ((nst ks i).2 (ks.getD i (.bool false))).isSome = true
    · rw [nst_old h2] at h h'; exact nst_inj hk i (by omega) k k' z h h'
    · rw [nst_new h2] at h h'
      have hs : upd (nst ks i).2 (ks.getD i (.bool false)) ((nst ks i).1 + 1) (ks.getD i (.bool false)) = some ((nst ks i).1 + 1) := upd_same _ _ _ (by rw [hg]; exact hl)
      by_cases e : k = ks.getD i (.bool false) <;> by_cases e' : k' = ks.getD i (.bool false)
      · rw [e, e']
      · rw [e] at h
        simp only [hs] at h
        simp only [upd_other _ _ e'] at h'
        have := (nst_range hk i (by omega) _ _ h').2
        have := Option.some.inj h
        omega
      · rw [e'] at h'
        simp only [hs] at h'
        simp only [upd_other _ _ e] at h
        have := (nst_range hk i (by omega) _ _ h).2
        have := Option.some.inj h'
        omega
      · simp only [upd_other _ _ e] at h
        simp only [upd_other _ _ e'] at h'
        exact nst_inj hk i (by omega) k k' z h h'
/-- Numbers, as a function of Inos. -/
theorem numb_is_ri (s : List Nod) : ∃ f, InjOn f s ∧ numb s = s.map (ri f) := by
  have hl := ikeys_length s
  refine ⟨fun z => ((((nst (ikeys s) s.length).2 (.int .i64 z)).getD 0 : Nat) : Int), ?_, ?_⟩
  · intro a ha b hb e
    obtain ⟨i, hi, rfl⟩ := List.getElem_of_mem ha
    obtain ⟨j, hj, rfl⟩ := List.getElem_of_mem hb
    have hn1 := nno_at (ikeys_lit s) (i := s.length) (j := i) (by omega) hi
    have hn2 := nno_at (ikeys_lit s) (i := s.length) (j := j) (by omega) hj
    rw [(getD_lit (ikeys_lit s) (show i < (ikeys s).length by omega)).1, ikeys_get s i hi] at hn1
    rw [(getD_lit (ikeys_lit s) (show j < (ikeys s).length by omega)).1, ikeys_get s j hj] at hn2
    simp only [hn1, hn2, Option.getD_some] at e
    have e' : nno (ikeys s) i = nno (ikeys s) j := by omega
    rw [e'] at hn1
    have := nst_inj (ikeys_lit s) s.length (by omega) _ _ _ hn1 hn2
    simpa using this
  · apply List.ext_getElem
    · rw [numb_length, List.length_map]
    · intro i h1 h2
      rw [numb_length] at h1
      have hn := nno_at (ikeys_lit s) (i := s.length) (j := i) (by omega) h1
      rw [(getD_lit (ikeys_lit s) (show i < (ikeys s).length by omega)).1, ikeys_get s i h1] at hn
      rw [numb_get _ _ h1]
      simp [ri, hn]
/-- Canon's answer has no fault, and is its own Canon. -/
theorem canon_check {l r : List Nod} (h0 : check l = 0) (h : IsCanon l r) : check r = 0 := by
  obtain ⟨s, hp, ho, rfl⟩ := h
  obtain ⟨f, hf, e⟩ := numb_is_ri s
  rw [e, check_whole, whole_ri hf]
  exact (check_whole.1 h0).perm hp
end Tre
end Go.Proofs.YtoohanojfoichaaGreatDoor

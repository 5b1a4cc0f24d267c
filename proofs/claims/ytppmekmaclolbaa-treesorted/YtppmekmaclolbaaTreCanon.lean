/- Layer 7: Canon. -/
import Derived.Test.YtppmekmaclolbaaTreInos
import Derived.Test.YtppmekmaclolbaaTreCheck
namespace Go.Proofs.Ytppmekmaclolbaa
set_option linter.unusedVariables false
open Go.RowKit Go.Maps
open Nam Tre

namespace Tre
/-- Nodes in order, and numbered. -/
def IsCanon (l r : List Nod) : Prop := ∃ s, s.Perm l ∧ s.Pairwise (fun p q => ltn q p = false) ∧ r = numb s
theorem xs1_vals : ∀ (a : List UInt8) (xs : List (ByteArray × List Int)), xs1 a xs = true → ∀ y ∈ xs, y.2.length ≤ 200
  | _, [], _, y, hy => by simp at hy
  | a, x :: r, h, y, hy => by
    simp only [xs1, Bool.and_eq_true, decide_eq_true_eq] at h
    rcases List.mem_cons.1 hy with rfl | hy
    · exact h.1.2
    · exact xs1_vals _ r h.2 y hy
theorem may_lean {n : Nod} (h : may n = true) : n.data.length ≤ 4096 ∧ n.xs.length ≤ 8 ∧ ∀ y ∈ n.xs, y.2.length ≤ 200 := by
  simp only [may, Bool.and_eq_true] at h
  obtain ⟨⟨⟨h1, _⟩, h3⟩, _⟩ := h
  simp only [xsOk, Bool.and_eq_true, decide_eq_true_eq] at h3
  refine ⟨?_, h3.1, xs1_vals _ _ h3.2⟩
  unfold kdOk at h1
  split at h1
  · simp only [Bool.and_eq_true, decide_eq_true_eq] at h1; omega
  · split at h1
    · simp only [Bool.and_eq_true, decide_eq_true_eq] at h1; omega
    · split at h1
      · simp only [Bool.and_eq_true, decide_eq_true_eq] at h1; omega
      · cases h1
end Tre
theorem lean_of {w : World} {v : Nv} {x : Nod} (hr : Rep w v x) (hm : may x = true) (hs : x.names.length ≤ 16) : Lean1 v x := by
  obtain ⟨h1, h2, h3⟩ := may_lean hm
  exact ⟨by rw [← hr.names.1]; omega, by rw [← hr.data.1]; omega, by rw [← hr.xs.1]; omega, fun y hy => Nat.le_trans (h3 y hy) (by omega)⟩
/-- A whole node stored within a row. -/
def putAt (w : World) (b o : Nat) (u : Nv) : World := ((((((((((w.setCell ⟨b, o, none⟩ (.slice u.na u.nn u.nc)).setCell ⟨b, o + 1, none⟩ (.int .i64 u.ino)).setCell ⟨b, o + 2, none⟩ (.int .i64 u.kind)).setCell ⟨b, o + 3, none⟩ (.int .i64 u.mode)).setCell ⟨b, o + 4, none⟩ (.int .i64 u.uid)).setCell ⟨b, o + 5, none⟩ (.int .i64 u.gid)).setCell ⟨b, o + 6, none⟩ (.slice u.da u.dn u.dc)).setCell ⟨b, o + 7, none⟩ (.string u.tg)).setCell ⟨b, o + 8, none⟩ (.slice u.xa u.xn u.xc)).setCell ⟨b, o + 9, none⟩ (.bool u.op))
theorem putAt_other (w : World) (b o : Nat) (u : Nv) (i : Nat) (hi : i ≠ b) : (putAt w b o u).heap[i]? = w.heap[i]? := by
  unfold putAt
  rw [set_other _ _ _ _ _ hi, set_other _ _ _ _ _ hi, set_other _ _ _ _ _ hi, set_other _ _ _ _ _ hi, set_other _ _ _ _ _ hi, set_other _ _ _ _ _ hi, set_other _ _ _ _ _ hi, set_other _ _ _ _ _ hi, set_other _ _ _ _ _ hi, set_other _ _ _ _ _ hi]
theorem putAt_size (w : World) (b o : Nat) (u : Nv) : (putAt w b o u).heap.size = w.heap.size := by unfold putAt; simp
theorem putAt_but (w : World) (b o : Nat) (u : Nv) : But b w (putAt w b o u) := ⟨by rw [putAt_size]; omega, fun i _ hne => putAt_other w b o u i hne⟩
theorem putAt_below {w w' : World} {B b o : Nat} (h : Below B w w') (hr : B ≤ b) (u : Nv) : Below B w (putAt w' b o u) :=
  ((((((((((h.setCell (p := ⟨b, o, none⟩) hr _).setCell (p := ⟨b, o + 1, none⟩) hr _).setCell (p := ⟨b, o + 2, none⟩) hr _).setCell (p := ⟨b, o + 3, none⟩) hr _).setCell (p := ⟨b, o + 4, none⟩) hr _).setCell (p := ⟨b, o + 5, none⟩) hr _).setCell (p := ⟨b, o + 6, none⟩) hr _).setCell (p := ⟨b, o + 7, none⟩) hr _).setCell (p := ⟨b, o + 8, none⟩) hr _).setCell (p := ⟨b, o + 9, none⟩) hr _)
theorem nvs_put (V : List Nv) (i : Nat) (u : Nv) (h : i < V.length) : ((((((((((nvs V).set (i * 10) (.slice u.na u.nn u.nc)).set (i * 10 + 1) (.int .i64 u.ino)).set (i * 10 + 2) (.int .i64 u.kind)).set (i * 10 + 3) (.int .i64 u.mode)).set (i * 10 + 4) (.int .i64 u.uid)).set (i * 10 + 5) (.int .i64 u.gid)).set (i * 10 + 6) (.slice u.da u.dn u.dc)).set (i * 10 + 7) (.string u.tg)).set (i * 10 + 8) (.slice u.xa u.xn u.xc)).set (i * 10 + 9) (.bool u.op) = nvs (V.set i u) := by
  induction V generalizing i with
  | nil => simp at h
  | cons v r ih =>
    have e : ∀ y l, nvs (y :: l) = y.cells.toList ++ nvs l := by simp [nvs]
    cases i with
    | zero =>
      rw [e, List.set_cons_zero, e]
      rfl
    | succ i =>
      have hs : ∀ (l : List Value) (k : Nat) (z : Value), (v.cells.toList ++ l).set ((i + 1) * 10 + k) z = v.cells.toList ++ l.set (i * 10 + k) z := fun l k z => by
        rw [List.set_append_right _ _ (by rw [cells_length]; omega), cells_length, show (i + 1) * 10 + k - 10 = i * 10 + k by omega]
      have hs0 : ∀ (l : List Value) (z : Value), (v.cells.toList ++ l).set ((i + 1) * 10) z = v.cells.toList ++ l.set (i * 10) z := fun l z => hs l 0 z
      rw [e, hs0, hs, hs, hs, hs, hs, hs, hs, hs, hs, List.set_cons_succ, e, ← ih i (by simpa using h)]
theorem own_put {w : World} {B g cap n i : Nat} {V : List Nv} (h : w.ownsRow B 42 10 (.slice (some ⟨g, 0, none⟩) n cap) n (nvs V)) (hi : i < n) (u : Nv) : (putAt w g (i * 10) u).ownsRow B 42 10 (.slice (some ⟨g, 0, none⟩) n cap) n (nvs (V.set i u)) := by
  have hl : V.length = n := by have := h.1; rw [nvs_length] at this; omega
  have h0 := (h.stored (i * 10) (.slice u.na u.nn u.nc)).1
  have h1 := (h0.stored (i * 10 + 1) (.int .i64 u.ino)).1
  have h2 := (h1.stored (i * 10 + 2) (.int .i64 u.kind)).1
  have h3 := (h2.stored (i * 10 + 3) (.int .i64 u.mode)).1
  have h4 := (h3.stored (i * 10 + 4) (.int .i64 u.uid)).1
  have h5 := (h4.stored (i * 10 + 5) (.int .i64 u.gid)).1
  have h6 := (h5.stored (i * 10 + 6) (.slice u.da u.dn u.dc)).1
  have h7 := (h6.stored (i * 10 + 7) (.string u.tg)).1
  have h8 := (h7.stored (i * 10 + 8) (.slice u.xa u.xn u.xc)).1
  have h9 := (h8.stored (i * 10 + 9) (.bool u.op)).1
  rw [nvs_put V i u (by omega)] at h9
  exact h9
theorem made_nodes (n : Nat) : (madeCells (Nv.cells nv0) (n * 10)).toList = nvs (List.replicate n nv0) := by
  apply List.ext_getElem?
  intro t
  by_cases ht : t < n * 10
  · rw [nvs_flat _ t (by simpa using ht)]
    simp only [List.getElem_replicate]
    have hc : t % 10 < (Nv.cells nv0).size := by show t % 10 < 10; omega
    simp [madeCells, ht, Nv.cells]
    rw [List.getElem?_eq_getElem (by show t % 10 < 10; omega)]
    rfl
  · rw [List.getElem?_eq_none (by simp [madeCells]; omega), List.getElem?_eq_none (by rw [nvs_length, List.length_replicate]; omega)]
/-- The row with the first i nodes copied. -/
structure CP (w wr : World) (blk n : Nat) (L C : List (Nv × Nod)) (i : Nat) : Prop where
  row : wr.ownsRow w.heap.size 42 10 (.slice (some ⟨blk, 0, none⟩) n n) n (nvs (C.map (·.1) ++ List.replicate (n - i) nv0))
  len : C.length = i
  nds : C.map (·.2) = (nds L).take i
  good : ∀ p ∈ C, Good wr blk p
  bel : Below w.heap.size w wr
theorem CP.step {w wr w1 w2 : World} {blk n i : Nat} {L C : List (Nv × Nod)} (h : CP w wr blk n L C i) (hL : L.length = n) (hi : i < n) (h1 : Below wr.heap.size wr w1) (h2 : Below w1.heap.size w1 w2) (u : Nv) (hr : Rep w2 u (gl L i).2) (ha : Abv w2 w1.heap.size u) (hf : (gl L i).2.names.length ≤ 1000000) :
    CP w (putAt w2 blk (i * 10) u) blk n L (C ++ [(u, (gl L i).2)]) (i + 1) := by
  have hblk := h.row.lt blk rfl
  have h12 : Below wr.heap.size wr w2 := h1.trans (h2.mono h1.size)
  have s1 := h1.size
  have row2 := owns_below h.row h12
  have hbut : But blk w2 (putAt w2 blk (i * 10) u) := putAt_but _ _ _ _
  refine ⟨?_, by simp [h.len], ?_, ?_, putAt_below (h.bel.trans (h12.mono h.bel.size)) hblk.1 u⟩
  · have := own_put row2 hi u
    have e : (List.map (fun x : Nv × Nod => x.fst) C ++ List.replicate (n - i) nv0).set i u = List.map (fun x : Nv × Nod => x.fst) (C ++ [(u, (gl L i).2)]) ++ List.replicate (n - (i + 1)) nv0 := by
      rw [List.set_append_right _ _ (by simp [h.len]), List.length_map, h.len, Nat.sub_self, show n - i = (n - (i + 1)) + 1 by omega, List.replicate_succ, List.set_cons_zero]
      simp
    rw [e] at this
    exact this
  · rw [List.map_append, h.nds, nds_take L i (by omega)]; rfl
  · intro p hp
    rcases List.mem_append.1 hp with hp | hp
    · exact ((h.good p hp).but (But.of_below h12)).but hbut
    · rw [List.mem_singleton] at hp
      subst hp
      have hg : Good w2 blk (u, (gl L i).2) := ⟨hr, ⟨fun a e => Nat.le_trans (by omega) (ha.na a e), fun a e => Nat.le_trans (by omega) (ha.da a e), fun a e => Nat.le_trans (by omega) (ha.xa a e), fun b off hb j hj va vn vc hc a e => Nat.le_trans (by omega) (ha.xs b off hb j hj va vn vc hc a e)⟩, hf⟩
      exact hg.but hbut
set_option maxRecDepth 100000 in
set_option maxHeartbeats 1000000 in
theorem Canon_ok (a : Option Addr) (n c : Nat) (L : List (Nv × Nod)) (w : World) (hl : Ns w a n L) (hc : n ≤ c) (hcm : c ≤ 9223372036854775807) (h0 : check (nds L) = 0) :
    Calls Try.prog 13 #[.slice a n c] w fun e w' => ∃ blk L', e = .returned (.tuple #[.slice (some ⟨blk, 0, none⟩) n n, .int .i64 0]) ∧ w'.ownsRow w.heap.size 42 10 (.slice (some ⟨blk, 0, none⟩) n n) n (nvs (L'.map (·.1))) ∧ (∀ p ∈ L', Good w' blk p) ∧ IsCanon (nds L) (nds L') ∧ Below w.heap.size w w' := by
  obtain ⟨k1, k2, k3, k4, k5, k6, k7, k8⟩ := check_zero h0
  have hLn := hl.1
  have hn1 : n ≤ 1024 := by rw [nds_length, hLn] at k1; exact k1
  have hn0 : 0 < n := by
    rcases Nat.eq_zero_or_pos n with e | e
    · rw [e] at hLn
      have : L = [] := List.eq_nil_of_length_eq_zero hLn
      rw [this] at k5; simp [nds, isDir] at k5
    · exact e
  have HC := hide (Check_any a n c L w hl hc hcm)
  rw [h0] at HC
  have HL := hide hl
  have HLN := hide hLn
  have HSH := hide (short_of k2 k3)
  have HMA : Hid (∀ x ∈ nds L, may x = true) := List.all_eq_true.1 k7
  obtain ⟨i0, hi0', hz0, hz1, hz2⟩ := info_parts infoNode
  have hn' : (n : Int) ≤ 1024 := by omega
  clear hl h0 k1 k2 k3 k4 k5 k6 k7 k8 hLn
  go_enter Try.func13, Try.ntmps13
  go_wp2_with (go_at_call 11; refine HC.out.mono ?_)
  rintro e w1 ⟨rfl, hb1⟩
  obtain ⟨w2, mk, own2, gr2⟩ := run_make_full (P := Try.prog) w1 w.heap.size 22 42 i0 (.agg (Nv.cells nv0)) 10 Try.underlying22 hi0' hz0 hz1 .i64 .i64 n (by rw [hz2]; omega) (by unfold maxLen; omega) hb1.size
  obtain ⟨blk, hblk⟩ : ∃ blk, blk = w1.heap.size := ⟨_, rfl⟩
  rw [← hblk] at mk own2
  clear hblk
  have HCP : Hid (CP w w2 blk n L [] 0) := by
    refine ⟨?_, rfl, by simp, fun p hp => by simp at hp, hb1.trans (grownBy_below gr2 hb1.size)⟩
    have e : (madeCells (Value.agg (Nv.cells nv0)).cells (n * 10)).toList = nvs (List.replicate n nv0) := made_nodes n
    rw [e] at own2
    simpa using own2
  clear hb1 own2 gr2 hi0' hz0 hz1 hz2 HC
  go_wp2
  go_loopw [6, 7, 18] (fun _ _ r wr => ∃ (i : Nat) (C : List (Nv × Nod)), r = .int .i64 i ∧ i ≤ n ∧ CP w wr blk n L C i) (fun _ _ r _ => n - (intOf r).toNat)
  case atStart => exact ⟨0, [], rfl, Nat.zero_le _, HCP.out⟩
  case round =>
    obtain ⟨i, C, rfl, hi0, hcp⟩ := hrel
    have HP := hide hcp
    by_cases hi : i < n
    · have hd : decide ((i : Int) < n) = true := by simpa using hi
      obtain ⟨ba, oa, rfl, hba, hca⟩ := (HL.out.below hcp.bel).at (by omega)
      obtain ⟨c0, c1, c2, c3, c4, c5, c6, c7, c8, c9⟩ := hca i hi
      have hmem := gl_mem L i (by rw [HLN.out]; exact hi)
      have hr := (HL.out.below hcp.bel).rep i hi
      have hsh := HSH.out _ (nds_mem hmem)
      have HCC : Hid (∀ o, Calls Try.prog 37 #[.agg (gl L i).1.cells] (wr.alloc o) fun e w' => ∃ v', e = .returned (.agg v'.cells) ∧ Rep w' v' (gl L i).2 ∧ Abv w' (wr.alloc o).heap.size v' ∧ Below (wr.alloc o).heap.size (wr.alloc o) w') := fun o =>
        copied_any (gl L i).1 (gl L i).2 (wr.alloc o) (hr.below ((Below.refl _ _).alloc (Nat.le_refl _) _)) (lean_of hr (HMA.out _ (nds_mem hmem)) hsh.1)
      have hfw : (gl L i).2.names.length ≤ 1000000 := by have := hsh.1; omega
      have hi1 : (i : Int) < n := by omega
      have bel1 : Hid (∀ o, Below wr.heap.size wr (wr.alloc o)) := fun o => (Below.refl _ _).alloc (Nat.le_refl _) _
      simp only [Nv.cells] at HCC
      clear hcp hca hr hsh mk
      go_wp2_with (go_at_call 37; refine (HCC.out _).mono ?_)
      rintro e w3 ⟨u, rfl, hru, hau, hb3⟩
      have HST := hide (HP.out.step HLN.out hi (bel1.out _) hb3 u hru hau hfw)
      have row3 := owns_below HP.out.row ((bel1.out _).trans (hb3.mono (bel1.out _).size))
      obtain ⟨b', off', hbo, hb', hat⟩ := (sh_of_owns row3).at (by omega)
      obtain ⟨rfl, rfl⟩ : blk = b' ∧ 0 = off' := by simpa using hbo
      obtain ⟨o, hat2⟩ : ∃ o, NodAt w3 blk (i * 10) o := ⟨_, by have := hat i hi; rw [Nat.zero_add] at this; exact this⟩
      obtain ⟨d0, d1, d2, d3, d4, d5, d6, d7, d8, d9⟩ := hat2
      have z0 := row3.frozenAt (i * 10)
      have z1 := row3.frozenAt (i * 10 + 1)
      have z2 := row3.frozenAt (i * 10 + 2)
      have z3 := row3.frozenAt (i * 10 + 3)
      have z4 := row3.frozenAt (i * 10 + 4)
      have z5 := row3.frozenAt (i * 10 + 5)
      have z6 := row3.frozenAt (i * 10 + 6)
      have z7 := row3.frozenAt (i * 10 + 7)
      have z8 := row3.frozenAt (i * 10 + 8)
      have z9 := row3.frozenAt (i * 10 + 9)
      clear hat row3 hbo hru hau hb3 c0 c1 c2 c3 c4 c5 c6 c7 c8 c9 HCC
      go_wp2
      exact ⟨⟨i + 1, _, by go_num, by omega, HST.out⟩, by simp [intOf]; omega⟩
    · have hd : decide ((i : Int) < n) = false := by simpa using hi
      obtain rfl : i = n := by omega
      have hrow : wr.ownsRow w.heap.size 42 10 (.slice (some ⟨blk, 0, none⟩) i i) i (nvs (C.map (·.1))) := by
        have := hcp.row
        rw [Nat.sub_self] at this
        simpa using this
      have hnd : nds C = nds L := by
        have := hcp.nds
        rw [List.take_of_length_le (by rw [nds_length, HLN.out]; omega)] at this
        exact this
      have HSO := hide (SortNodes_any blk i i w.heap.size C wr hrow hn0 (by omega) hcp.good)
      have hblk2 := (hrow.lt blk rfl)
      clear hcp mk hrow
      go_wp2_with (go_at_call 38; refine HSO.out.mono ?_)
      rintro e w4 ⟨rfl, L4, hp4, hs4, own4, good4, but4, q1, q2, q3⟩
      have E4 : Hid (Below w.heap.size w w4) := HP.out.bel.trans ⟨q1, q2, q3, but4.1, fun j hj => but4.2 j (by omega) (by omega)⟩
      have HNU := hide (numberInos_any blk i i w.heap.size L4 w4 own4 (by omega) good4)
      have hL4 : L4.length = i := by rw [hp4.length_eq]; have := congrArg List.length hnd; rw [nds_length, nds_length, HLN.out] at this; exact this
      have HIC : Hid (IsCanon (nds L) (nds (rl (ikeys (nds L4)) L4 i))) := by
        refine ⟨nds L4, ?_, ?_, ?_⟩
        · rw [← hnd]; exact hp4.map _
        · rw [nds, List.pairwise_map]; exact hs4
        · rw [← hL4]; exact rl_end L4
      have HG4 : Hid (∀ p ∈ rl (ikeys (nds L4)) L4 i, Good w4 blk p) := by
        intro p hp
        obtain ⟨j, hj, rfl⟩ := List.getElem_of_mem hp
        rw [rl_length] at hj
        have := rl_get (ikeys (nds L4)) L4 i (by omega) j
        rw [gl_lt _ _ (by rw [rl_length]; exact hj), if_pos (by omega)] at this
        rw [this]
        have hnb := (nno_range (ikeys_lit (nds L4)) (i := j) (by rw [ikeys_length, nds_length]; exact hj)).2
        have hnl := nst_le (ikeys (nds L4)) (j + 1)
        exact good_rn (good4 _ (gl_mem L4 j hj)) _ (by omega)
      have hs4' := but4.1
      clear hp4 hs4 own4 good4 but4 q1 q2 q3 hnd HSO
      go_wp2_with (go_at_call 40; refine HNU.out.mono ?_)
      rintro e w5 ⟨rfl, hni⟩
      have HNI := hide hni
      clear hni
      go_wp2
      go_ret2
      refine ⟨blk, rl (ikeys (nds L4)) L4 i, rfl, HNI.out.row, fun p hp => (HG4.out p hp).but HNI.out.but, HIC.out, ?_⟩
      exact E4.out.trans (HNI.out.bel.mono hblk2.1)
theorem Canon_no (a : Option Addr) (n c : Nat) (L : List (Nv × Nod)) (w : World) (hl : Ns w a n L) (hc : n ≤ c) (hcm : c ≤ 9223372036854775807) (z : Int) (hz : check (nds L) = z) (h0 : z ≠ 0) :
    Calls Try.prog 13 #[.slice a n c] w fun e w' => e = .returned (.tuple #[.slice none 0 0, .int .i64 z]) ∧ Below w.heap.size w w' := by
  have HC := hide (Check_any a n c L w hl hc hcm)
  rw [hz] at HC
  have h1 : (z != 0) = true := by simpa using h0
  clear hl hz
  go_enter Try.func13, Try.ntmps13
  go_wp2_with (go_at_call 11; refine HC.out.mono ?_; rintro e w1 ⟨rfl, hb1⟩)
  go_ret2
  exact ⟨rfl, hb1⟩
end Go.Proofs.Ytppmekmaclolbaa

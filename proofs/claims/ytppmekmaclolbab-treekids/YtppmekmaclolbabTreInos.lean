/- Layer 7: numberInos. -/
import Derived.Test.YtppmekmaclolbabTreNum
namespace Go.Proofs.Ytppmekmaclolbab
set_option linter.unusedVariables false
open Go.RowKit Go.Maps
open Nam Tre

/-- A node with another Ino. -/
def rn (p : Nv × Nod) (z : Nat) : Nv × Nod := ({ p.1 with ino := (z : Int) }, { p.2 with ino := (z : Int) })
/-- The first i nodes numbered. -/
def rl (ks : List Lit) (L : List (Nv × Nod)) : Nat → List (Nv × Nod)
  | 0 => L
  | i + 1 => (rl ks L i).set i (rn (gl L i) (nno ks i))
theorem rl_length (ks : List Lit) (L : List (Nv × Nod)) : ∀ i, (rl ks L i).length = L.length
  | 0 => rfl
  | i + 1 => by rw [rl, List.length_set]; exact rl_length ks L i
theorem gl_set (L : List (Nv × Nod)) (i j : Nat) (p : Nv × Nod) (hi : i < L.length) : gl (L.set i p) j = if j = i then p else gl L j := by
  unfold gl
  by_cases e : j = i
  · subst e; simp [hi]
  · rw [if_neg e]; simp [Ne.symm e]
theorem rl_get (ks : List Lit) (L : List (Nv × Nod)) : ∀ i, i ≤ L.length → ∀ j, gl (rl ks L i) j = if j < i then rn (gl L j) (nno ks j) else gl L j
  | 0, _, j => by simp [rl]
  | i + 1, hi, j => by
    rw [rl, gl_set _ _ _ _ (by rw [rl_length]; omega), rl_get ks L i (by omega) j]
    by_cases e : j = i
    · subst e; rw [if_pos rfl, if_pos (by omega)]
    · rw [if_neg e]
      by_cases h : j < i
      · rw [if_pos h, if_pos (by omega)]
      · rw [if_neg h, if_neg (by omega)]
theorem rl_end (L : List (Nv × Nod)) : nds (rl (ikeys (nds L)) L L.length) = numb (nds L) := by
  apply List.ext_getElem
  · rw [nds_length, rl_length, numb_length, nds_length]
  · intro i h1 h2
    have hi : i < L.length := by rw [nds_length, rl_length] at h1; exact h1
    rw [numb_get _ _ (by rw [nds_length]; exact hi)]
    have e1 : (nds (rl (ikeys (nds L)) L L.length))[i] = (gl (rl (ikeys (nds L)) L L.length) i).2 := by rw [gl_lt _ _ (by rw [rl_length]; exact hi)]; simp [nds]
    have e2 : (nds L)[i]'(by rw [nds_length]; exact hi) = (gl L i).2 := by rw [gl_lt L i hi]; simp [nds]
    rw [e1, rl_get _ _ _ (Nat.le_refl _), if_pos hi, e2]
    rfl
theorem nvs_setIno (V : List Nv) (i : Nat) (z : Int) (h : i < V.length) : (nvs V).set (i * 10 + 1) (.int .i64 z) = nvs (V.set i { V[i] with ino := z }) := by
  induction V generalizing i with
  | nil => simp at h
  | cons v r ih =>
    have e : ∀ y l, nvs (y :: l) = y.cells.toList ++ nvs l := by simp [nvs]
    cases i with
    | zero => rw [e, List.set_cons_zero, e]; rfl
    | succ i =>
      rw [e, List.set_append_right _ _ (by rw [cells_length]; omega), cells_length, show (i + 1) * 10 + 1 - 10 = i * 10 + 1 by omega, ih i (by simpa using h), List.set_cons_succ, e]
      rfl
theorem map_set1 (L : List (Nv × Nod)) (i : Nat) (p : Nv × Nod) : (L.set i p).map (·.1) = (L.map (·.1)).set i p.1 := by simp [List.map_set]
theorem good_rn {w : World} {blk : Nat} {p : Nv × Nod} (h : Good w blk p) (z : Nat) (hz : z ≤ 1000000) : Good w blk (rn p z) :=
  ⟨{ h.rep with ino := rfl, in64 := (by show (Lit.int .i64 (z : Int)).wf = true; exact WalkArith.wf_i64 (by omega)) }, ⟨h.abv.na, h.abv.da, h.abv.xa, h.abv.xs⟩, h.few⟩
theorem But.refl (blk : Nat) (w : World) : But blk w w := ⟨Nat.le_refl _, fun _ _ _ => rfl⟩
theorem But.trans {blk : Nat} {a b c : World} (h : But blk a b) (k : But blk b c) : But blk a c := ⟨Nat.le_trans h.1 k.1, fun i hi hne => (k.2 i (Nat.lt_of_lt_of_le hi h.1) hne).trans (h.2 i hi hne)⟩
theorem But.of_below {blk : Nat} {w w' : World} (h : Below w.heap.size w w') : But blk w w' := ⟨h.size, fun i hi _ => h.block i hi⟩
/-- The row with its first i nodes numbered. -/
structure NI (w wr : World) (B blk n cap : Nat) (L : List (Nv × Nod)) (i : Nat) : Prop where
  row : wr.ownsRow B 36 10 (.slice (some ⟨blk, 0, none⟩) n cap) n (nvs ((rl (ikeys (nds L)) L i).map (·.1)))
  map : MpK 3 wr w.heap.size (nst (ikeys (nds L)) i).1 (nst (ikeys (nds L)) i).2
  but : But blk w wr
  bel : Below blk w wr
theorem MpK.look1 {k : TypeId} {w : World} {b sz : Nat} {f : Lit → Option Nat} (h : MpK k w b sz f) (K : Keyed Try.prog k) {t : TypeId} (ht : Try.prog.underlying t = some (.map k 3)) {key : Value} {kl : Lit} (hkey : keyOf Try.prog k key = some kl) (hk : WideAt.IsKeyLit kl) {z : Nat} (hz : f kl = some z) :
    (Instr.lookup t (.map (some b)) key false).run Try.prog w = .ok (.int .i64 (z : Int)) w := by
  obtain ⟨D, h1, _, h3⟩ := h
  obtain ⟨e1, e2⟩ := h3 kl hk
  obtain ⟨v, ps, hr, hv⟩ := h1.lookup K ht (zeroInt w) (zd := .held (.int .i64 0)) (zp := []) rfl hkey
  rw [e2 z hz] at hv
  simp [HV] at hv
  rw [hv.1] at hr
  exact hr
theorem NI.put {w wr w2 : World} {B blk n cap i : Nat} {L : List (Nv × Nod)} (h : NI w wr B blk n cap L i) (hL : L.length = n) (hi : i < n) (hb : blk < w.heap.size) (hg : wr.grownBy w2 (some w.heap.size)) (hm : MpK 3 w2 w.heap.size (nst (ikeys (nds L)) (i + 1)).1 (nst (ikeys (nds L)) (i + 1)).2) :
    NI w (w2.setCell ⟨blk, i * 10 + 1, none⟩ (.int .i64 (nno (ikeys (nds L)) i : Nat))) B blk n cap L (i + 1) := by
  have row2 := h.row.kept hg (.inr (by simp [Value.ownBlock]; omega))
  have hs := h.but.1
  refine ⟨?_, hm.same (set_other _ _ _ _ _ (by omega)), ⟨by simp; exact Nat.le_trans hs hg.size, fun j hj hne => ?_⟩, ?_⟩
  · have := (row2.stored (i * 10 + 1) (.int .i64 (nno (ikeys (nds L)) i : Nat))).1
    rw [nvs_setIno _ i _ (by rw [List.length_map, rl_length, hL]; exact hi)] at this
    rw [rl, map_set1]
    have e : ((rl (ikeys (nds L)) L i).map (·.1))[i]'(by rw [List.length_map, rl_length, hL]; exact hi) = (gl L i).1 := by
      have := rl_get (ikeys (nds L)) L i (by omega) i
      rw [if_neg (by omega), gl_lt _ _ (by rw [rl_length, hL]; exact hi)] at this
      simp [this]
    rw [e] at this
    exact this
  · rw [set_other _ _ _ _ _ hne, hg.block j (by omega) (by simp; omega)]
    exact h.but.2 j hj hne
  · exact (h.bel.grown hg (by omega) (fun k e => by cases e; omega)).setCell (Nat.le_refl _) _
set_option maxRecDepth 100000 in
set_option maxHeartbeats 1000000 in
theorem numberInos_any (blk n cap B : Nat) (L : List (Nv × Nod)) (w : World) (hown : w.ownsRow B 36 10 (.slice (some ⟨blk, 0, none⟩) n cap) n (nvs (L.map (·.1)))) (hn : n ≤ 100000) (hg : ∀ p ∈ L, Good w blk p) :
    Calls Try.prog 13 #[.slice (some ⟨blk, 0, none⟩) n cap] w fun e w' => e = .returned (.tuple #[]) ∧ NI w w' B blk n cap L n := by
  have hLl : L.length = n := by have := hown.1; rw [nvs_length, List.length_map] at this; omega
  have hblk : blk < w.heap.size := (hown.lt blk rfl).2
  have HLN := hide hLl
  have hcap := (cap_owns hown).1
  have hcapm := (cap_owns hown).2.1
  have N0 : Hid (NI w (w.alloc (.map #[] 0)) B blk n cap L 0) := ⟨hown.alloc _, mpk_new _ w, But.of_below ((Below.refl _ _).alloc (Nat.le_refl _) _), (Below.refl _ _).alloc (by omega) _⟩
  have mk := make_hintI n
  have HG := hide hg
  clear hown hg hLl
  go_enter Try.func13, Try.ntmps13
  go_wp2
  go_loopw [3, 4, 5, 6, 12, 20] (fun _ _ _ _ r _ wr => ∃ i : Nat, r = .int .i64 i ∧ i ≤ n ∧ NI w wr B blk n cap L i) (fun _ _ _ _ r _ _ => n - (intOf r).toNat)
  case atStart => exact ⟨0, rfl, Nat.zero_le _, N0.out⟩
  case round =>
    obtain ⟨i, rfl, hi0, hni⟩ := hrel
    have HN := hide hni
    by_cases hi : i < n
    · have hd : decide ((i : Int) < n) = true := by simpa using hi
      have hat := (sh_of_owns hni.row).at (by omega)
      obtain ⟨b', off', hbo, hb', hat⟩ := hat
      obtain ⟨rfl, rfl⟩ : blk = b' ∧ 0 = off' := by simpa using hbo
      have c1 := (hat i hi).c1
      rw [gv_map _ _ (by rw [rl_length, HLN.out]; exact hi), rl_get _ _ _ (by rw [HLN.out]; exact hi0), if_neg (by omega), Nat.zero_add] at c1
      have hkd : (ikeys (nds L)).getD i (.bool false) = .int .i64 (gl L i).1.ino := by rw [ikeys_at L i (by rw [HLN.out]; exact hi), (HG.out _ (gl_mem L i (by rw [HLN.out]; exact hi))).rep.ino]
      have hkey : keyOf Try.prog 3 (.int .i64 (gl L i).1.ino) = some (.int .i64 (gl L i).1.ino) := keyOf_int_mk Try.underlying3 (HG.out _ (gl_mem L i (by rw [HLN.out]; exact hi))).rep.in64
      have hlk := hni.map.look keyedInt mapUnderI hkey trivial
      have hfz := hni.row.frozenAt (i * 10 + 1)
      have hkl := ikeys_lit (nds L)
      have hil : i < (ikeys (nds L)).length := by rw [ikeys_length, nds_length, HLN.out]; exact hi
      have hi1 : (i : Int) < n := by omega
      have hlen := hni.map.len mapUnderI 3
      have hcl := nst_le (ikeys (nds L)) i
      cases hf : (nst (ikeys (nds L)) i).2 (.int .i64 (gl L i).1.ino) with
      | some z =>
        have hnst : nst (ikeys (nds L)) (i + 1) = nst (ikeys (nds L)) i := nst_old (by rw [hkd, hf]; rfl)
        have hz : nno (ikeys (nds L)) i = z := by
          unfold nno
          rw [hnst, hkd, hf]; rfl
        have HP := hide (hni.put HLN.out hi hblk (World.grownBy.refl wr _) (by rw [hnst]; exact hni.map))
        rw [hz] at HP
        have hl1 := hni.map.look1 keyedInt mapUnderI hkey trivial hf
        rw [hf] at hlk
        simp only [Option.getD_some, Option.isSome_some] at hlk
        clear hni hat hbo hkd hkey hf hnst hz hkl
        go_wp2
        exact ⟨⟨i + 1, by go_num, by omega, HP.out⟩, by simp [intOf]; omega⟩
      | none =>
        have hnst : nst (ikeys (nds L)) (i + 1) = ((nst (ikeys (nds L)) i).1 + 1, upd (nst (ikeys (nds L)) i).2 (.int .i64 (gl L i).1.ino) ((nst (ikeys (nds L)) i).1 + 1)) := by
          rw [nst_new (by rw [hkd, hf]; simp), hkd]
        obtain ⟨w2, hrun, hm2, hg2⟩ := hni.map.store keyedInt mapUnderI hkey trivial (by omega) ((nst (ikeys (nds L)) i).1 + 1)
        rw [hf] at hm2
        have hm3 : MpK 3 w2 w.heap.size (nst (ikeys (nds L)) (i + 1)).1 (nst (ikeys (nds L)) (i + 1)).2 := by rw [hnst]; exact hm2
        have hz : nno (ikeys (nds L)) i = (nst (ikeys (nds L)) i).1 + 1 := by
          unfold nno
          rw [hnst, hkd]
          simp only [upd_same _ _ _ (show WideAt.IsKeyLit (.int .i64 (gl L i).1.ino) from trivial)]; rfl
        have HP := hide (hni.put HLN.out hi hblk hg2 hm3)
        rw [hz] at HP
        have hl1 := hm2.look1 keyedInt mapUnderI hkey trivial (upd_same _ _ _ trivial)
        have row2 := hni.row.kept hg2 (.inr (by simp [Value.ownBlock]; omega))
        have hfz2 := row2.frozenAt (i * 10 + 1)
        have c12 : w2.cell? ⟨blk, i * 10 + 1, none⟩ = some (.int .i64 (gl L i).1.ino) := by rw [World.cell?_of_block (hg2.block blk hb' (by simp; omega))]; exact c1
        rw [hf] at hlk
        simp only [Option.getD_none, Option.isSome_none] at hlk
        have hcc : ((((nst (ikeys (nds L)) i).1 + 1 : Nat)) : Int) = ((nst (ikeys (nds L)) i).1 : Int) + 1 := by omega
        rw [hcc] at hrun hl1 HP
        generalize (nst (ikeys (nds L)) i).1 = cn at *
        clear hni hat hbo hkd hkey hf hnst hz hkl hm2 hm3 row2 hg2 hcc
        go_wp2
        exact ⟨⟨i + 1, by go_num, by omega, HP.out⟩, by simp [intOf]; omega⟩
    · have hd : decide ((i : Int) < n) = false := by simpa using hi
      obtain rfl : i = n := by omega
      go_wp2
      go_end0
      exact ⟨rfl, HN.out⟩
end Go.Proofs.Ytppmekmaclolbab

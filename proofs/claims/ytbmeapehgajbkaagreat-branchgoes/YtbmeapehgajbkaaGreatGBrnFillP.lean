import Derived.Test.YtbmeapehgajbkaaGreatGJTabXat
import Derived.Test.YtbmeapehgajbkaaGreatGJTreCanon
set_option linter.unusedVariables false
namespace Go.Proofs.YtbmeapehgajbkaaGreat
open Nam Tre Mrg Upr
namespace Brn
theorem trn_len (u : Us) (r : Int) (f : Nod → Nod) : (trn u r f).L.length = u.L.length ∧ (trn u r f).E = u.E ∧ (trn u r f).nx = u.nx := by simp [trn]
structure Lo (s : Fs) (i : Nat) : Prop where
 l : s.u.L.length ≤ i + 1
 e : s.u.E.length ≤ i
 nx : s.u.nx ≤ i + 2
 nx1 : 1 < s.u.nx
 R : ∀ x r, s.R x = some r → 0 ≤ r ∧ r < s.u.nx
 way : ∀ r ∈ s.way, 0 ≤ r ∧ r < s.u.nx
theorem Lo.sm {s : Fs} {i : Nat} (h : Lo s i) (hi : i ≤ 1000) : Sm s.u := ⟨by have := h.l; omega, by have := h.e; omega, by have := h.nx; omega⟩
theorem lo_putU {s : Fs} {i : Nat} (h : Lo s i) (n : Nod) : (putU s n).2.L.length ≤ i + 2 ∧ (putU s n).2.E.length ≤ i + 1 ∧ (putU s n).2.nx ≤ i + 3 ∧ s.u.nx ≤ (putU s n).2.nx ∧ 0 ≤ (putU s n).1 ∧ (putU s n).1 < (putU s n).2.nx := by
 have h1 := h.l
 have h2 := h.e
 have h3 := h.nx
 have h4 := h.nx1
 unfold putU
 by_cases h0 : n.names.length = 0
 ·rw [if_pos h0]
  have ha : (sa s.u 1 n.mode n.uid n.gid).2.L.length = s.u.L.length ∧ (sa s.u 1 n.mode n.uid n.gid).2.E = s.u.E ∧ (sa s.u 1 n.mode n.uid n.gid).2.nx = s.u.nx := by
   unfold sa; split
   ·exact ⟨rfl, rfl, rfl⟩
   ·exact trn_len _ _ _
  have hx : ∀ u : Us, (sx u 1 n.xs).2.L.length = u.L.length ∧ (sx u 1 n.xs).2.E = u.E ∧ (sx u 1 n.xs).2.nx = u.nx := fun u => by
   unfold sx; split
   ·exact ⟨rfl, rfl, rfl⟩
   ·exact trn_len _ _ _
  obtain ⟨x1, x2, x3⟩ := hx (sa s.u 1 n.mode n.uid n.gid).2
  refine ⟨by simp only; omega, by simp only; rw [x2, ha.2.1]; omega, by simp only; omega, by simp only; omega, by simp only; omega, by simp only; omega⟩
 ·rw [if_neg h0]
  cases hk : s.R n.ino with
  | some r =>
   obtain ⟨r1, r2⟩ := h.R _ _ hk
   simp only
   have hl : (ln s.u (Lz.g s.way (n.names.length - 1)) (lst n) r).2.L = s.u.L ∧ (ln s.u (Lz.g s.way (n.names.length - 1)) (lst n) r).2.E.length ≤ s.u.E.length + 1 ∧ (ln s.u (Lz.g s.way (n.names.length - 1)) (lst n) r).2.nx = s.u.nx := by
    unfold ln
    split
    ·exact ⟨rfl, Nat.le_succ _, rfl⟩
    ·split
     ·exact ⟨rfl, Nat.le_succ _, rfl⟩
     ·split
      ·exact ⟨rfl, Nat.le_succ _, rfl⟩
      ·exact ⟨rfl, by simp, rfl⟩
   rw [hl.1, hl.2.2]
   omega
  | none =>
   simp only
   have hm : (mk s.u (Lz.g s.way (n.names.length - 1)) (lst n) n).2.L.length ≤ s.u.L.length + 1 ∧ (mk s.u (Lz.g s.way (n.names.length - 1)) (lst n) n).2.E.length ≤ s.u.E.length + 1 ∧ (mk s.u (Lz.g s.way (n.names.length - 1)) (lst n) n).2.nx ≤ s.u.nx + 1 ∧ s.u.nx ≤ (mk s.u (Lz.g s.way (n.names.length - 1)) (lst n) n).2.nx ∧ 0 ≤ (mk s.u (Lz.g s.way (n.names.length - 1)) (lst n) n).1.1 ∧ (mk s.u (Lz.g s.way (n.names.length - 1)) (lst n) n).1.1 < (mk s.u (Lz.g s.way (n.names.length - 1)) (lst n) n).2.nx := by
    unfold mk
    split
    ·exact ⟨by simp, by simp, by simp; omega, by simp, by simp, by simp; omega⟩
    ·split
     ·exact ⟨by simp, by simp, by simp; omega, by simp, by simp, by simp; omega⟩
     ·exact ⟨by simp, by simp, by simp, by simp; omega, by simp; omega, by simp; omega⟩
   omega
theorem lo_put {s : Fs} {i : Nat} (h : Lo s i) (n : Nod) : Lo (putF s n) (i + 1) := by
 obtain ⟨h1, h2, h3, h4, h5, h6⟩ := lo_putU h n
 have hso : (putF s n).u.L.length = (putU s n).2.L.length ∧ (putF s n).u.E = (putU s n).2.E ∧ (putF s n).u.nx = (putU s n).2.nx := by
  unfold putF
  simp only
  split
  ·unfold so
   split
   ·exact ⟨rfl, rfl, rfl⟩
   ·exact trn_len _ _ _
  ·exact ⟨rfl, rfl, rfl⟩
 obtain ⟨e1, e2, e3⟩ := hso
 have n1 := h.nx1
 refine ⟨by rw [e1]; omega, by rw [e2]; omega, by rw [e3]; omega, by rw [e3]; omega, fun x r hx => ?_, fun r hr => ?_⟩
 ·rw [e3]
  have hx' : (if x = n.ino then some (putU s n).1 else s.R x) = some r := hx
  split at hx'
  ·have := Option.some.inj hx'; omega
  ·have := h.R _ _ hx'; omega
 ·rw [e3]
  have hr' : r ∈ s.way.take n.names.length ++ [(putU s n).1] := hr
  rcases List.mem_append.1 hr' with q | q
  ·have := h.way r (List.mem_of_mem_take q); omega
  ·have := List.mem_singleton.1 q; omega
theorem put_way {s : Fs} {n : Nod} (h : n.names.length ≤ s.way.length) : (putF s n).way.length = n.names.length + 1 := by
 show (s.way.take n.names.length ++ [(putU s n).1]).length = _
 rw [List.length_append, List.length_take, Nat.min_eq_left h]; rfl
def s0 : Fs := ⟨u0, fun _ => none, []⟩
def fills (l : List Nod) (i : Nat) : Fs := (l.take i).foldl putF s0
theorem fills_succ (l : List Nod) (i : Nat) (h : i < l.length) : fills l (i + 1) = putF (fills l i) l[i] := by
 unfold fills
 rw [List.take_succ_eq_append_getElem h, List.foldl_append]; rfl
theorem lo_fills (l : List Nod) : ∀ i, i ≤ l.length → Lo (fills l i) i
 | 0, _ => ⟨by simp [fills, s0, u0], by simp [fills, s0, u0], by simp [fills, s0, u0], by simp [fills, s0, u0], fun x r h => by simp [fills, s0] at h, fun r h => by simp [fills, s0] at h⟩
 | i + 1, h => by
  rw [fills_succ l i (by omega)]
  exact lo_put (lo_fills l i (by omega)) _
theorem nm_inj {a b : List ByteArray} (h : nm a = nm b) : a = b := by
 unfold nm at h
 exact List.map_inj_right (fun x y e => toList_inj e) |>.1 h
structure OrdT (t l : List Nod) : Prop where
 br : Br t
 perm : l.Perm t
 srt : l.Pairwise (fun p q => ltn q p = false)
theorem OrdT.lt {t l : List Nod} (h : OrdT t l) {i j : Nat} (hij : i < j) (hj : j < l.length) : less (nm l[i].names) (nm l[j].names) = true := by
 have h1 := List.pairwise_iff_getElem.1 h.srt i j (by omega) hj hij
 have hne : nm l[i].names ≠ nm l[j].names := fun e => by
  have hd : (l.map Nod.names).Nodup := ((h.perm.map Nod.names).nodup_iff).2 h.br.nodup
  have h2 := List.pairwise_iff_getElem.1 hd i j (by simp; omega) (by simpa using hj) hij
  exact h2 (by rw [List.getElem_map, List.getElem_map]; exact nm_inj e)
 rcases less_total _ _ hne with q | q
 ·exact q
 ·exact absurd (h1.symm.trans q) (by simp)
theorem OrdT.deep {t l : List Nod} (h : OrdT t l) {i : Nat} (hi : i + 1 < l.length) : l[i + 1].names.length ≤ l[i].names.length + 1 := by
 by_cases h0 : l[i + 1].names = []
 ·rw [h0]; simp
 ·obtain ⟨p, p1, p2, _⟩ := h.br.dirs l[i + 1] (h.perm.mem_iff.1 (List.getElem_mem _)) h0
  obtain ⟨k, hk, e⟩ := List.getElem_of_mem (h.perm.mem_iff.2 p1)
  have hlen : p.names.length + 1 = l[i + 1].names.length := by
   have := List.length_pos_iff.2 h0
   rw [p2, List.length_dropLast]; omega
  have hdl : nm l[i + 1].names = nm p.names ++ (l[i + 1].names.getLast h0).toList :: [] := by
   have e2 := List.dropLast_concat_getLast h0
   have e3 := congrArg nm e2
   rw [nm_append] at e3
   rw [p2]; exact e3.symm
  have hki : k ≤ i := by
   rcases Nat.lt_or_ge i k with q | q
   ·have hlt : less (nm p.names) (nm l[i + 1].names) = true := by
     rw [hdl]
     exact (below_less ((below_iff _ _).2 ⟨_, _, rfl⟩)).1
    rcases Nat.lt_or_ge (i + 1) k with q2 | q2
    ·have := h.lt q2 hk
     rw [e] at this
     have h3 := less_trans _ _ _ hlt this
     rw [less_irrefl] at h3; cases h3
    ·have : k = i + 1 := by omega
     subst this
     rw [e, less_irrefl] at hlt; cases hlt
   ·exact q
  rcases Nat.lt_or_ge k i with q | q
  ·have h1 := h.lt q (by omega)
   have h2 := h.lt (Nat.lt_succ_self i) hi
   rw [e] at h1
   rw [hdl] at h2
   have h3 := between _ _ _ _ h1 h2
   obtain ⟨x, y, h4⟩ := (below_iff _ _).1 h3
   have h5 : (nm l[i].names).length = (nm p.names).length + (y.length + 1) := by rw [h4]; simp
   rw [nm_length, nm_length] at h5
   omega
  ·have : k = i := by omega
   subst this
   rw [e]; omega
theorem OrdT.first {t l : List Nod} (h : OrdT t l) (hl : 0 < l.length) : l[0].names = [] := by
 obtain ⟨n, n1, n2, _⟩ := h.br.root
 obtain ⟨k, hk, e⟩ := List.getElem_of_mem (h.perm.mem_iff.2 n1)
 rcases Nat.eq_zero_or_pos k with q | q
 ·subst q; rw [e]; exact n2
 ·have h1 := h.lt q hk
  rw [e, n2] at h1
  cases hx : nm l[0].names with
  | nil => exact List.map_eq_nil_iff.1 hx
  | cons a b => rw [hx] at h1; simp [nm, less] at h1
theorem OrdT.way {t l : List Nod} (h : OrdT t l) : ∀ i, (hi : i < l.length) → l[i].names.length ≤ (fills l i).way.length
 | 0, hi => by rw [h.first hi]; simp
 | i + 1, hi => by
  rw [fills_succ l i (by omega), put_way (h.way i (by omega))]
  exact h.deep hi
end Brn
end Go.Proofs.YtbmeapehgajbkaaGreat

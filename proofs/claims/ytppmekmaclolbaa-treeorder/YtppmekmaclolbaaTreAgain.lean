/- Layer 7, on lists alone: Check and Canon of the same nodes in another order, with other Inos. -/
import Derived.Test.YtppmekmaclolbaaTreFacts
namespace Go.Proofs.Ytppmekmaclolbaa
set_option linter.unusedVariables false
open Go.RowKit Go.Maps
open Nam Tre

namespace Tre
theorem wrong_of : ∀ (l : List Nod), (∀ n ∈ l, fv n.names = 0) → wrong l = 0
  | [], _ => rfl
  | a :: r, h => by
    unfold wrong
    rw [if_pos (h a (by simp))]
    exact wrong_of r (fun n hn => h n (by simp [hn]))
theorem isDir_of {l : List Nod} {m : List ByteArray} (hd : (l.map Nod.names).Nodup) {n : Nod} (hn : n ∈ l) (h1 : n.names = m) (h2 : n.kind = 1) : isDir l m = true := by
  unfold isDir
  cases hf : l.find? (fun n => decide (n.names = m)) with
  | none =>
    have := List.find?_eq_none.1 hf n hn
    simp [h1] at this
  | some p =>
    have hp := List.mem_of_find?_eq_some hf
    have he : p.names = m := by simpa using List.find?_some hf
    have : p = n := names_inj hd p hp n hn (he.trans h1.symm)
    rw [this]; simpa using h2
/-- What a row without a fault has. -/
structure Whole (l : List Nod) : Prop where
  len : l.length ≤ 1024
  wrong : ∀ n ∈ l, fv n.names = 0
  deep : ∀ n ∈ l, deep n = false
  nodup : (l.map Nod.names).Nodup
  root : ∃ n ∈ l, n.names = [] ∧ n.kind = 1
  dirs : ∀ n ∈ l, n.names ≠ [] → ∃ p ∈ l, p.names = n.names.dropLast ∧ p.kind = 1
  may : ∀ n ∈ l, may n = true
  one : l.Pairwise one
theorem whole_of {l : List Nod} (h : check l = 0) : Whole l := by
  obtain ⟨k1, k2, k3, k4, k5, k6, k7, k8⟩ := check_zero h
  refine ⟨k1, wrong_zero l k2, fun n hn => ?_, k4, isDir_mem k5, fun n hn hne => ?_, List.all_eq_true.1 k7, k8⟩
  · cases hq : deep n with
    | false => rfl
    | true => rw [List.any_eq_true.2 ⟨n, hn, hq⟩] at k3; cases k3
  · have hd := List.all_eq_true.1 k6 n hn
    unfold inDir at hd
    rw [decide_eq_false (by intro q; exact hne (List.eq_nil_of_length_eq_zero q)), Bool.false_or] at hd
    exact isDir_mem hd
theorem of_whole {l : List Nod} (h : Whole l) : check l = 0 := by
  unfold check
  have h2 : wrong l = 0 := wrong_of l h.wrong
  have h3 : l.any deep = false := by
    rw [List.any_eq_false]; intro n hn; rw [h.deep n hn]; simp
  obtain ⟨n0, r1, r2, r3⟩ := h.root
  have h5 : isDir l [] = true := isDir_of h.nodup r1 r2 r3
  have h6 : l.all (inDir l) = true := by
    rw [List.all_eq_true]
    intro n hn
    unfold inDir
    by_cases e : n.names = []
    · simp [e]
    · obtain ⟨p, p1, p2, p3⟩ := h.dirs n hn e
      rw [isDir_of h.nodup p1 p2 p3]; simp
  have h7 : l.all may = true := List.all_eq_true.2 h.may
  rw [if_neg (by have := h.len; omega), if_neg (by rw [h2]; simp), if_neg (by rw [h3]; simp), if_neg (fun q => q h.nodup), if_neg (by rw [h5]; simp), if_neg (by rw [h6]; simp), if_neg (by rw [h7]; simp), if_neg (fun q => q h.one)]
theorem check_whole {l : List Nod} : check l = 0 ↔ Whole l := ⟨whole_of, of_whole⟩
theorem one_symm {a b : Nod} (h : one a b) : one b a := fun e => by
  obtain ⟨h1, h2⟩ := h e.symm
  exact ⟨by rw [((alike_iff a b).1 h2).1]; exact h1, alike_symm h2⟩
theorem Whole.perm {l m : List Nod} (h : Whole l) (hp : m.Perm l) : Whole m where
  len := by rw [hp.length_eq]; exact h.len
  wrong n hn := h.wrong n (hp.mem_iff.1 hn)
  deep n hn := h.deep n (hp.mem_iff.1 hn)
  nodup := (hp.map Nod.names).nodup_iff.2 h.nodup
  root := by
    obtain ⟨n, h1, h2⟩ := h.root
    exact ⟨n, hp.mem_iff.2 h1, h2⟩
  dirs n hn hne := by
    obtain ⟨p, h1, h2⟩ := h.dirs n (hp.mem_iff.1 hn) hne
    exact ⟨p, hp.mem_iff.2 h1, h2⟩
  may n hn := h.may n (hp.mem_iff.1 hn)
  one := (hp.pairwise_iff (fun h => one_symm h)).2 h.one
/-- A node with another Ino. -/
def ri (f : Int → Int) (n : Nod) : Nod := { n with ino := f n.ino }
def InjOn (f : Int → Int) (l : List Nod) : Prop := ∀ a ∈ l, ∀ b ∈ l, f a.ino = f b.ino → a.ino = b.ino
theorem alike_ri (f : Int → Int) (a b : Nod) : alike (ri f a) (ri f b) = alike a b := rfl
theorem names_ri (f : Int → Int) (l : List Nod) : (l.map (ri f)).map Nod.names = l.map Nod.names := by rw [List.map_map]; rfl
theorem whole_ri {f : Int → Int} {l : List Nod} (hf : InjOn f l) : Whole (l.map (ri f)) ↔ Whole l := by
  have mem : ∀ {n}, n ∈ l.map (ri f) ↔ ∃ a ∈ l, ri f a = n := fun {n} => List.mem_map
  constructor
  · intro h
    refine ⟨by simpa using h.len, fun n hn => h.wrong (ri f n) (List.mem_map_of_mem hn), fun n hn => h.deep (ri f n) (List.mem_map_of_mem hn), by rw [← names_ri f]; exact h.nodup, ?_, ?_, fun n hn => h.may (ri f n) (List.mem_map_of_mem hn), ?_⟩
    · obtain ⟨n, h1, h2⟩ := h.root
      obtain ⟨a, ha, rfl⟩ := mem.1 h1
      exact ⟨a, ha, h2⟩
    · intro n hn hne
      obtain ⟨p, h1, h2⟩ := h.dirs _ (List.mem_map_of_mem hn) hne
      obtain ⟨a, ha, rfl⟩ := mem.1 h1
      exact ⟨a, ha, h2⟩
    · have := h.one
      rw [List.pairwise_map] at this
      exact this.imp fun {a b} h e => h (by show f a.ino = f b.ino; rw [e])
  · intro h
    refine ⟨by simpa using h.len, fun n hn => ?_, fun n hn => ?_, by rw [names_ri f]; exact h.nodup, ?_, ?_, fun n hn => ?_, ?_⟩
    · obtain ⟨a, ha, rfl⟩ := mem.1 hn; exact h.wrong a ha
    · obtain ⟨a, ha, rfl⟩ := mem.1 hn; exact h.deep a ha
    · obtain ⟨n, h1, h2⟩ := h.root
      exact ⟨_, List.mem_map_of_mem h1, h2⟩
    · intro n hn hne
      obtain ⟨a, ha, rfl⟩ := mem.1 hn
      obtain ⟨p, h1, h2⟩ := h.dirs a ha hne
      exact ⟨_, List.mem_map_of_mem h1, h2⟩
    · obtain ⟨a, ha, rfl⟩ := mem.1 hn; exact h.may a ha
    · rw [List.pairwise_map]
      exact h.one.imp_of_mem fun {a b} ha hb h e => h (hf a ha b hb e)
/-- Numbers hang on which Inos are the same, and on nothing else. -/
theorem nst_alike {ks js : List Lit} (hk : ∀ k ∈ ks, WideAt.IsKeyLit k) (hj : ∀ k ∈ js, WideAt.IsKeyLit k) (hl : ks.length = js.length) (he : ∀ a b (ha : a < ks.length) (hb : b < ks.length), ks[a] = ks[b] ↔ js[a]'(by omega) = js[b]'(by omega)) :
    ∀ i, i ≤ ks.length → (nst ks i).1 = (nst js i).1 ∧ ∀ a, a < i → nno ks a = nno js a
  | 0, _ => ⟨rfl, fun a h => by omega⟩
  | i + 1, h => by
    obtain ⟨h1, h2⟩ := nst_alike hk hj hl he i (by omega)
    have hi : i < ks.length := by omega
    have hi' : i < js.length := by omega
    have hm : ks[i] ∈ ks.take i ↔ js[i] ∈ js.take i := by
      rw [List.mem_take_iff_getElem, List.mem_take_iff_getElem]
      constructor
      · rintro ⟨a, ha, e⟩; exact ⟨a, by omega, (he a i (by omega) hi).1 e⟩
      · rintro ⟨a, ha, e⟩; exact ⟨a, by omega, (he a i (by omega) hi).2 e⟩
    by_cases q : ks[i] ∈ ks.take i
    · have q' := hm.1 q
      refine ⟨by rw [nst_same hk hi q, nst_same hj hi' q']; exact h1, fun a ha => ?_⟩
      by_cases e : a < i
      · exact h2 a e
      · obtain rfl : a = i := by omega
        obtain ⟨b, hb, eb⟩ := List.mem_take_iff_getElem.1 q
        have hba : b < a := by omega
        rw [nno_old hk hi hba eb, nno_old hj hi' hba ((he b a (by omega) hi).1 eb)]
        exact h2 b hba
    · have q' : js[i] ∉ js.take i := fun z => q (hm.2 z)
      obtain ⟨a1, a2⟩ := nno_new hk hi q
      obtain ⟨b1, b2⟩ := nno_new hj hi' q'
      refine ⟨by rw [a2, b2, h1], fun a ha => ?_⟩
      by_cases e : a < i
      · exact h2 a e
      · obtain rfl : a = i := by omega
        rw [a1, b1, h1]
theorem ikeys_get (l : List Nod) (i : Nat) (h : i < l.length) : (ikeys l)[i]'(by rw [ikeys_length]; exact h) = .int .i64 l[i].ino := by simp [ikeys]
theorem numb_ri {f : Int → Int} {l : List Nod} (hf : InjOn f l) : numb (l.map (ri f)) = numb l := by
  have hlen : (ikeys l).length = (ikeys (l.map (ri f))).length := by rw [ikeys_length, ikeys_length, List.length_map]
  have key := (nst_alike (ikeys_lit l) (ikeys_lit (l.map (ri f))) hlen (fun a b ha hb => by
    rw [ikeys_length] at ha hb
    rw [ikeys_get l a ha, ikeys_get l b hb, ikeys_get (l.map (ri f)) a (by simpa using ha), ikeys_get (l.map (ri f)) b (by simpa using hb)]
    simp only [List.getElem_map, ri, Lit.int.injEq, true_and]
    exact ⟨fun e => by rw [e], fun e => hf _ (List.getElem_mem ha) _ (List.getElem_mem hb) e⟩) _ (Nat.le_refl _)).2
  apply List.ext_getElem
  · rw [numb_length, numb_length, List.length_map]
  · intro i h1 h2
    rw [numb_length] at h2
    rw [numb_get _ _ (by simpa using h2), numb_get _ _ h2, ← key i (by rw [ikeys_length]; exact h2)]
    simp [ri]
theorem canon_ri {f : Int → Int} {l r : List Nod} (hf : InjOn f l) (h : IsCanon l r) : IsCanon (l.map (ri f)) r := by
  obtain ⟨s, hp, ho, rfl⟩ := h
  refine ⟨s.map (ri f), hp.map _, by rw [List.pairwise_map]; exact ho, ?_⟩
  exact (numb_ri (fun a ha b hb e => hf a (hp.mem_iff.1 ha) b (hp.mem_iff.1 hb) e)).symm
theorem canon_perm {l m r : List Nod} (hp : m.Perm l) (h : IsCanon l r) : IsCanon m r := by
  obtain ⟨s, h1, h2, h3⟩ := h
  exact ⟨s, h1.trans hp.symm, h2, h3⟩
theorem nst_inj {ks : List Lit} (hk : ∀ k ∈ ks, WideAt.IsKeyLit k) : ∀ i, i ≤ ks.length → ∀ k k' z, (nst ks i).2 k = some z → (nst ks i).2 k' = some z → k = k'
  | 0, _, k, k', z, h, _ => by simp [nst] at h
  | i + 1, hi, k, k', z, h, h' => by
    have hi' : i < ks.length := by omega
    obtain ⟨hg, hl⟩ := getD_lit hk hi'
    by_cases h2 : ((nst ks i).2 (ks.getD i (.bool false))).isSome = true
    · rw [nst_old h2] at h h'; exact nst_inj hk i (by omega) k k' z h h'
    · rw [nst_new h2] at h h'
      have hs : upd (nst ks i).2 (ks.getD i (.bool false)) ((nst ks i).1 + 1) (ks.getD i (.bool false)) = some ((nst ks i).1 + 1) := upd_same _ _ _ (by rw [hg]; exact hl)
      by_cases e : k = ks.getD i (.bool false) <;> by_cases e' : k' = ks.getD i (.bool false)
      · rw [e, e']
      · rw [e] at h
        simp only [hs] at h
        simp only [upd_other _ _ e'] at h'
        have := (nst_range hk i (by omega) _ _ h').2
        have := Option.some.inj h
        omega
      · rw [e'] at h'
        simp only [hs] at h'
        simp only [upd_other _ _ e] at h
        have := (nst_range hk i (by omega) _ _ h).2
        have := Option.some.inj h'
        omega
      · simp only [upd_other _ _ e] at h
        simp only [upd_other _ _ e'] at h'
        exact nst_inj hk i (by omega) k k' z h h'
/-- Numbers, as a function of Inos. -/
theorem numb_is_ri (s : List Nod) : ∃ f, InjOn f s ∧ numb s = s.map (ri f) := by
  have hl := ikeys_length s
  refine ⟨fun z => ((((nst (ikeys s) s.length).2 (.int .i64 z)).getD 0 : Nat) : Int), ?_, ?_⟩
  · intro a ha b hb e
    obtain ⟨i, hi, rfl⟩ := List.getElem_of_mem ha
    obtain ⟨j, hj, rfl⟩ := List.getElem_of_mem hb
    have hn1 := nno_at (ikeys_lit s) (i := s.length) (j := i) (by omega) hi
    have hn2 := nno_at (ikeys_lit s) (i := s.length) (j := j) (by omega) hj
    rw [(getD_lit (ikeys_lit s) (show i < (ikeys s).length by omega)).1, ikeys_get s i hi] at hn1
    rw [(getD_lit (ikeys_lit s) (show j < (ikeys s).length by omega)).1, ikeys_get s j hj] at hn2
    simp only [hn1, hn2, Option.getD_some] at e
    have e' : nno (ikeys s) i = nno (ikeys s) j := by omega
    rw [e'] at hn1
    have := nst_inj (ikeys_lit s) s.length (by omega) _ _ _ hn1 hn2
    simpa using this
  · apply List.ext_getElem
    · rw [numb_length, List.length_map]
    · intro i h1 h2
      rw [numb_length] at h1
      have hn := nno_at (ikeys_lit s) (i := s.length) (j := i) (by omega) h1
      rw [(getD_lit (ikeys_lit s) (show i < (ikeys s).length by omega)).1, ikeys_get s i h1] at hn
      rw [numb_get _ _ h1]
      simp [ri, hn]
/-- Canon's answer has no fault, and is its own Canon. -/
theorem canon_check {l r : List Nod} (h0 : check l = 0) (h : IsCanon l r) : check r = 0 := by
  obtain ⟨s, hp, ho, rfl⟩ := h
  obtain ⟨f, hf, e⟩ := numb_is_ri s
  rw [e, check_whole, whole_ri hf]
  exact (check_whole.1 h0).perm hp
theorem canon_again {l r : List Nod} (h : IsCanon l r) : IsCanon r r := by
  obtain ⟨s, hp, ho, rfl⟩ := h
  obtain ⟨f, hf, e⟩ := numb_is_ri s
  have := canon_ri hf ⟨s, List.Perm.refl s, ho, rfl⟩
  rw [← e] at this
  exact this
/-- The same nodes in another order, with other Inos. -/
theorem again_check {f : Int → Int} {l m : List Nod} (hf : InjOn f l) (hp : m.Perm (l.map (ri f))) : check m = 0 ↔ check l = 0 := by
  rw [check_whole, check_whole, ← whole_ri hf]
  exact ⟨fun h => h.perm hp.symm, fun h => h.perm hp⟩
theorem again_canon {f : Int → Int} {l m r : List Nod} (hf : InjOn f l) (hp : m.Perm (l.map (ri f))) (h : IsCanon l r) : IsCanon m r := canon_perm hp (canon_ri hf h)
end Tre
end Go.Proofs.Ytppmekmaclolbaa

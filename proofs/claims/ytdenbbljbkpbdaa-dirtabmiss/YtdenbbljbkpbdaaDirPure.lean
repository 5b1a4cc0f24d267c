/- Layer 10 on lists alone: lists of entries that may be, their bytes, what bytes are read as, what is found. Nothing here speaks of the program. -/
import Derived.Test.YtdenbbljbkpbdaaCurApp
import Derived.Test.YtdenbbljbkpbdaaNamTxt
namespace Go.Proofs.Ytdenbbljbkpbdaa.Dir
set_option linter.unusedVariables false
open Cur Cap Nam
open Lz (g)

/-- An entry: its fields in the order of their declaration. -/
structure Ent where
  name : ByteArray
  kind : Int
  ref : Int
/-- No entry. -/
def z0 : Ent := ⟨⟨#[]⟩, 0, 0⟩
/-- The entry at a place. -/
def gl (L : List Ent) (i : Nat) : Ent := L.getD i z0
theorem gl_lt (L : List Ent) (i : Nat) (h : i < L.length) : gl L i = L[i] := by simp [gl, h]
theorem gl_mem (L : List Ent) (i : Nat) (h : i < L.length) : gl L i ∈ L := by rw [gl_lt L i h]; exact List.getElem_mem h
theorem gl_take (L : List Ent) (k i : Nat) (h : i < k) : gl (L.take k) i = gl L i := by simp [gl, h]
theorem drop_gl (L : List Ent) (i : Nat) (h : i < L.length) : L.drop i = gl L i :: L.drop (i + 1) := by rw [List.drop_eq_getElem_cons h, gl_lt L i h]
theorem take_gl (L : List Ent) (i : Nat) (h : i < L.length) : L.take (i + 1) = L.take i ++ [gl L i] := by rw [List.take_succ_eq_append_getElem h, gl_lt L i h]
/-- Numbers that an int holds. -/
def Ent.In (E : Ent) : Prop := (-9223372036854775808 ≤ E.kind ∧ E.kind ≤ 9223372036854775807) ∧ (-9223372036854775808 ≤ E.ref ∧ E.ref ≤ 9223372036854775807)

def ok (E : Ent) : Bool := decide (valid E.name.toList = 0 ∧ (1 ≤ E.kind ∧ E.kind ≤ 3) ∧ 0 ≤ E.ref ∧ E.ref ≤ 4294967295)
/-- Whether an entry may stand behind the name s. -/
def nx (s : ByteArray) (E : Ent) : Bool := Op.bytesLess s.toList E.name.toList && ok E
def rise : ByteArray → List Ent → Bool
  | _, [] => true
  | s, E :: L => nx s E && rise E.name L
def em : ByteArray := ⟨#[]⟩
theorem em_list : em.toList = [] := toList_mk []
def may (L : List Ent) : Bool := rise em L
/-- An entry's bytes. -/
def entB (E : Ent) : List Int := ((E.name.size : Int) :: sb E.name) ++ (by' 1 E.kind ++ by' 4 E.ref)
def putB (L : List Ent) : List Int := (L.map entB).flatten
theorem putB_nil : putB [] = [] := rfl
theorem putB_cons (E : Ent) (L : List Ent) : putB (E :: L) = entB E ++ putB L := by simp [putB]
theorem putB_append (A B : List Ent) : putB (A ++ B) = putB A ++ putB B := by simp [putB]
theorem putB_one (E : Ent) : putB [E] = entB E := by simp [putB]
/-- What bytes can tell. -/
def fit (E : Ent) : Prop := E.name.size ≤ 255 ∧ (0 ≤ E.kind ∧ E.kind < 256) ∧ 0 ≤ E.ref ∧ E.ref < 4294967296
theorem ok_iff {E : Ent} : ok E = true ↔ valid E.name.toList = 0 ∧ (1 ≤ E.kind ∧ E.kind ≤ 3) ∧ 0 ≤ E.ref ∧ E.ref ≤ 4294967295 := by unfold ok; rw [decide_eq_true_eq]
theorem ok_fit {E : Ent} (h : ok E = true) : fit E := by
  obtain ⟨h1, h2, h3⟩ := ok_iff.1 h
  have := (valid_zero h1).1
  rw [toList_length] at this
  exact ⟨this, by omega, by omega⟩
theorem fit_in {E : Ent} (h : fit E) : E.In := by unfold Ent.In; have := h.2; omega
theorem entB_length (E : Ent) : (entB E).length = E.name.size + 6 := by unfold entB; simp [by_length, sb_length]
theorem entB_bytes {E : Ent} (h : E.name.size ≤ 255) : Bytes (entB E) := by
  unfold entB
  refine Bytes.append (fun x hx => ?_) ((by_bytes _ _).append (by_bytes _ _))
  rcases List.mem_cons.1 hx with rfl | hx
  · omega
  · exact sb_bytes _ x hx
theorem putB_bytes {L : List Ent} (h : ∀ E ∈ L, fit E) : Bytes (putB L) := by
  induction L with
  | nil => exact Bytes.nil
  | cons E L ih => rw [putB_cons]; exact (entB_bytes (h E (by simp)).1).append (ih (fun X hX => h X (List.mem_cons_of_mem _ hX)))
theorem putB_length {L : List Ent} (h : ∀ E ∈ L, fit E) : (putB L).length ≤ 261 * L.length := by
  induction L with
  | nil => simp [putB]
  | cons E L ih =>
    have h1 := ih (fun X hX => h X (List.mem_cons_of_mem _ hX))
    have h2 := (h E (by simp)).1
    rw [putB_cons, List.length_append, List.length_cons, entB_length]; omega
theorem rise_cons {s : ByteArray} {E : Ent} {L : List Ent} : rise s (E :: L) = (nx s E && rise E.name L) := rfl
theorem rise_ok {L : List Ent} : ∀ {s : ByteArray}, rise s L = true → ∀ E ∈ L, ok E = true := by
  induction L with
  | nil => intro s _ E hE; simp at hE
  | cons X L ih =>
    intro s h E hE
    rw [rise_cons, Bool.and_eq_true] at h
    have h1 := h.1
    unfold nx at h1
    rw [Bool.and_eq_true] at h1
    rcases List.mem_cons.1 hE with rfl | hE
    · exact h1.2
    · exact ih h.2 E hE
theorem rise_less {L : List Ent} : ∀ {s : ByteArray}, rise s L = true → ∀ E ∈ L, Op.bytesLess s.toList E.name.toList = true := by
  induction L with
  | nil => intro s _ E hE; simp at hE
  | cons X L ih =>
    intro s h E hE
    rw [rise_cons, Bool.and_eq_true] at h
    have h1 := h.1
    unfold nx at h1
    rw [Bool.and_eq_true] at h1
    rcases List.mem_cons.1 hE with rfl | hE
    · exact h1.1
    · exact bless_trans _ _ _ h1.1 (ih h.2 E hE)
theorem may_fit {L : List Ent} (h : may L = true) : ∀ E ∈ L, fit E := fun E hE => ok_fit (rise_ok h E hE)
theorem nx_em (E : Ent) : nx em E = ok E := by
  unfold nx
  cases h : ok E with
  | false => simp
  | true =>
    have := (valid_zero (ok_iff.1 h).1).2.1
    rw [em_list]
    cases e : E.name.toList with
    | nil => exact absurd e this
    | cons a r => simp [Op.bytesLess]
/-- The name ahead of a place. -/
def pv (L : List Ent) (i : Nat) : ByteArray := if i = 0 then em else (gl L (i - 1)).name
theorem pv_succ (L : List Ent) (i : Nat) : pv L (i + 1) = (gl L i).name := by simp [pv]
theorem rise_drop (L : List Ent) (i : Nat) (h : i < L.length) : rise (pv L i) (L.drop i) = (nx (pv L i) (gl L i) && rise (pv L (i + 1)) (L.drop (i + 1))) := by
  rw [drop_gl L i h, rise_cons, pv_succ]

/-! ### Bytes read as entries -/

def rE (s : St) : Ent := ⟨strOfNums (txtA s), numA 1 (txtS s), numA 4 (numS 1 (txtS s))⟩
def rS (s : St) : St := numS 4 (numS 1 (txtS s))
theorem str_size (zs : List Int) : (strOfNums zs).size = zs.length := by
  show (strOfNums zs).data.size = _
  rw [← Array.length_toList, strOfNums_data, List.length_map]
theorem numA_lt (n : Nat) (h1 : 1 ≤ n) (h4 : n ≤ 4) (s : St) (hb : Bytes s.1) : 0 ≤ numA n s ∧ numA n s < 256 ^ n := by
  unfold numA
  rw [if_pos (by omega), Int.toNat_natCast]
  have hp : Bytes (pa n s) := by unfold pa; split; exact Bytes.nil; exact hb.take _
  have h5 := le_bound hp
  have h6 : (pa n s).length ≤ n := by unfold pa; split; simp; simp; omega
  have h7 := pow256 h6
  omega
theorem txt_bytes {s : St} (hb : Bytes s.1) : Bytes (txtS s).1 := by
  unfold txtS ps fl
  have := num_bytes (n := 1) hb
  repeat' split
  all_goals first | exact Bytes.nil | exact this | exact this.drop _
theorem txtA_bytes {s : St} (hb : Bytes s.1) : Bytes (txtA s) := by
  unfold txtA pa
  split
  · exact Bytes.nil
  · exact (num_bytes (n := 1) hb).take _
theorem txtA_length {s : St} (hb : Bytes s.1) : (txtA s).length ≤ 255 := by
  have h : 0 ≤ numA 1 s ∧ numA 1 s < 256 := by simpa using numA_lt 1 (by omega) (by omega) s hb
  have h2 : (txtA s).length ≤ (numA 1 s).toNat := by unfold txtA pa; split; simp; simp; omega
  omega
theorem rE_fit {s : St} (hb : Bytes s.1) : fit (rE s) := by
  have h1 := txtA_length hb
  have h2 := numA_lt 1 (by omega) (by omega) (txtS s) (txt_bytes hb)
  have h3 := numA_lt 4 (by omega) (by omega) (numS 1 (txtS s)) (num_bytes (txt_bytes hb))
  refine ⟨?_, ?_, ?_⟩
  · show (strOfNums (txtA s)).size ≤ 255
    rw [str_size]; omega
  · show 0 ≤ numA 1 (txtS s) ∧ numA 1 (txtS s) < 256
    simpa using h2
  · show 0 ≤ numA 4 (numS 1 (txtS s)) ∧ numA 4 (numS 1 (txtS s)) < 4294967296
    simpa using h3
theorem rS_bytes {s : St} (hb : Bytes s.1) : Bytes (rS s).1 := num_bytes (num_bytes (txt_bytes hb))
theorem rS_ok {zs : List Int} (hb : Bytes zs) (h : (rS (zs, 0)).2 = 0) : zs = entB (rE (zs, 0)) ++ (rS (zs, 0)).1 := by
  unfold rS rE entB at *
  have b1 : Bytes (txtS (zs, 0)).1 := txt_bytes hb
  have b2 : Bytes (numS 1 (txtS (zs, 0))).1 := num_bytes b1
  have k3 := num_ok 4 4 rfl (by omega) (by omega) h b2
  have k2 := num_ok 1 1 rfl (by omega) (by omega) k3.1 b1
  have k1 := txt_ok k2.1 (s := (zs, 0)) hb
  have q1 := k1.2
  have q2 := k2.2
  have q3 := k3.2
  simp only [str_size, sb_str (txtA_bytes (s := (zs, 0)) hb), List.append_assoc]
  rw [← q3, ← q2]
  exact q1
theorem rd_ent {E : Ent} (h : fit E) (r : List Int) : rE (entB E ++ r, 0) = E ∧ rS (entB E ++ r, 0) = (r, 0) := by
  obtain ⟨h1, h2, h3⟩ := h
  have e1 := txt_app (sb E.name) (by' 1 E.kind ++ (by' 4 E.ref ++ r)) (by rw [sb_length]; omega)
  have e2 := num_app 1 1 rfl E.kind (by' 4 E.ref ++ r) (by omega) (by omega) (by omega) (by omega)
  have e3 := num_app 4 4 rfl E.ref r (by omega) (by omega) (by omega) (by omega)
  have e0 : entB E ++ r = ((sb E.name).length : Int) :: sb E.name ++ (by' 1 E.kind ++ (by' 4 E.ref ++ r)) := by unfold entB; rw [sb_length]; simp
  rw [e0]
  unfold rE rS
  rw [e1.1, e1.2, e2.1, e2.2, e3.1, e3.2, str_sb]
  exact ⟨rfl, rfl⟩
/-- All entries of which bytes are read till one is none; whether all bytes are read. -/
def prs : Nat → List Int → List Ent × Bool
  | 0, zs => ([], decide (zs = []))
  | k + 1, zs => if zs = [] then ([], true) else if (rS (zs, 0)).2 = 0 then (rE (zs, 0) :: (prs k (rS (zs, 0)).1).1, (prs k (rS (zs, 0)).1).2) else ([], false)
def par (zs : List Int) : List Ent × Bool := prs zs.length zs
theorem rS_less {zs : List Int} (hb : Bytes zs) (h : (rS (zs, 0)).2 = 0) : (rS (zs, 0)).1.length + 6 ≤ zs.length := by
  have := congrArg List.length (rS_ok hb h)
  rw [List.length_append, entB_length] at this
  omega
theorem prs_more : ∀ (k : Nat) (zs : List Int), Bytes zs → zs.length ≤ k → prs k zs = prs zs.length zs := by
  intro k
  induction k using Nat.strongRecOn with
  | ind k ih =>
    intro zs hb h
    by_cases e : zs = []
    · subst e; cases k <;> simp [prs]
    · obtain ⟨m, hm⟩ : ∃ m, zs.length = m + 1 := ⟨zs.length - 1, by have := List.length_pos_iff.2 e; omega⟩
      obtain ⟨j, rfl⟩ : ∃ j, k = j + 1 := ⟨k - 1, by omega⟩
      rw [hm]
      unfold prs
      rw [if_neg e, if_neg e]
      by_cases h0 : (rS (zs, 0)).2 = 0
      · have hl := rS_less hb h0
        have hbr : Bytes (rS (zs, 0)).1 := rS_bytes (s := (zs, 0)) hb
        rw [if_pos h0, if_pos h0, ih j (by omega) _ hbr (by omega), ih m (by omega) _ hbr (by omega)]
      · rw [if_neg h0, if_neg h0]
theorem par_nil : par [] = ([], true) := rfl
theorem par_step {zs : List Int} (hb : Bytes zs) (h : zs ≠ []) (h0 : (rS (zs, 0)).2 = 0) : par zs = (rE (zs, 0) :: (par (rS (zs, 0)).1).1, (par (rS (zs, 0)).1).2) := by
  have hl := rS_less hb h0
  have hbr : Bytes (rS (zs, 0)).1 := rS_bytes (s := (zs, 0)) hb
  obtain ⟨m, hm⟩ : ∃ m, zs.length = m + 1 := ⟨zs.length - 1, by have := List.length_pos_iff.2 h; omega⟩
  conv => lhs; unfold par; rw [hm]; unfold prs; rw [if_neg h, if_pos h0, prs_more m _ hbr (by omega)]
  rfl
theorem par_bad {zs : List Int} (h : zs ≠ []) (h0 : (rS (zs, 0)).2 ≠ 0) : par zs = ([], false) := by
  obtain ⟨m, hm⟩ : ∃ m, zs.length = m + 1 := ⟨zs.length - 1, by have := List.length_pos_iff.2 h; omega⟩
  unfold par
  rw [hm]
  unfold prs
  rw [if_neg h, if_neg h0]
theorem entB_ne (E : Ent) (r : List Int) : entB E ++ r ≠ [] := by unfold entB; simp
theorem par_ent {E : Ent} (h : fit E) (r : List Int) (hr : Bytes r) : par (entB E ++ r) = (E :: (par r).1, (par r).2) := by
  obtain ⟨e1, e2⟩ := rd_ent h r
  rw [par_step ((entB_bytes h.1).append hr) (entB_ne E r) (by rw [e2]), e1, e2]
theorem par_put {L : List Ent} (h : ∀ E ∈ L, fit E) (y : List Int) (hy : Bytes y) : par (putB L ++ y) = (L ++ (par y).1, (par y).2) := by
  induction L with
  | nil => simp [putB]
  | cons E L ih =>
    have h1 := ih (fun X hX => h X (List.mem_cons_of_mem _ hX))
    have hb := putB_bytes (L := L) (fun X hX => h X (List.mem_cons_of_mem _ hX))
    rw [putB_cons, List.append_assoc, par_ent (h E (by simp)) _ (hb.append hy), h1]
    simp
theorem par_putB {L : List Ent} (h : ∀ E ∈ L, fit E) : par (putB L) = (L, true) := by
  have := par_put h [] Bytes.nil
  rw [List.append_nil, par_nil] at this
  simpa using this
theorem par_ind {P : List Int → Prop} (h0 : P []) (hbad : ∀ zs, Bytes zs → zs ≠ [] → (rS (zs, 0)).2 ≠ 0 → P zs) (hst : ∀ zs, Bytes zs → zs ≠ [] → (rS (zs, 0)).2 = 0 → P (rS (zs, 0)).1 → P zs) : ∀ zs, Bytes zs → P zs := by
  intro zs
  obtain ⟨n, hn⟩ : ∃ n, zs.length = n := ⟨_, rfl⟩
  induction n using Nat.strongRecOn generalizing zs with
  | ind n ih =>
    intro hb
    by_cases e : zs = []
    · rw [e]; exact h0
    · by_cases h : (rS (zs, 0)).2 = 0
      · have hl := rS_less hb h
        exact hst zs hb e h (ih _ (by omega) _ rfl (rS_bytes (s := (zs, 0)) hb))
      · exact hbad zs hb e h
theorem put_par : ∀ zs, Bytes zs → (par zs).2 = true → putB (par zs).1 = zs := by
  refine par_ind (fun _ => rfl) (fun zs hb h h0 hp => ?_) (fun zs hb h h0 ih hp => ?_)
  · rw [par_bad h h0] at hp; cases hp
  · rw [par_step hb h h0] at hp ⊢
    rw [putB_cons, ih hp, ← rS_ok hb h0]
theorem par_fit : ∀ zs, Bytes zs → ∀ E ∈ (par zs).1, fit E := by
  refine par_ind (fun E hE => ?_) (fun zs hb h h0 E hE => ?_) (fun zs hb h h0 ih E hE => ?_)
  · rw [par_nil] at hE; simp at hE
  · rw [par_bad h h0] at hE; simp at hE
  · rw [par_step hb h h0] at hE
    rcases List.mem_cons.1 hE with rfl | hE
    · exact rE_fit hb
    · exact ih E hE
theorem par_length : ∀ zs, Bytes zs → 6 * (par zs).1.length ≤ zs.length := by
  refine par_ind (by rw [par_nil]; simp) (fun zs hb h h0 => by rw [par_bad h h0]; simp) (fun zs hb h h0 ih => ?_)
  have hl := rS_less hb h0
  rw [par_step hb h h0, List.length_cons]
  omega
theorem par_some {zs : List Int} (hb : Bytes zs) (h : zs ≠ []) (hp : (par zs).2 = true) : 0 < (par zs).1.length := by
  by_cases h0 : (rS (zs, 0)).2 = 0
  · rw [par_step hb h h0]; simp
  · rw [par_bad h h0] at hp; cases hp
/-- Whether bytes are those of a list that may be. -/
def tk (zs : List Int) : Bool := (par zs).2 && may (par zs).1
theorem tk_put {L : List Ent} (h : may L = true) : tk (putB L) = true := by unfold tk; rw [par_putB (may_fit h), h]; rfl
/-- P10.2: what is cut within an entry is no list; between two it is a shorter one. -/
theorem tk_cut {L : List Ent} (h : may L = true) (n : Nat) (hn : n < (putB L).length) (ht : tk ((putB L).take n) = true) : (par ((putB L).take n)).1.length < L.length := by
  unfold tk at ht
  rw [Bool.and_eq_true] at ht
  have hb := putB_bytes (may_fit h)
  have e1 := put_par _ (hb.take n) ht.1
  have e2 := par_put (L := (par ((putB L).take n)).1) (fun E hE => ok_fit (rise_ok ht.2 E hE)) ((putB L).drop n) (hb.drop n)
  rw [e1, List.take_append_drop, par_putB (may_fit h)] at e2
  have e3 : (par ((putB L).drop n)).2 = true := (congrArg Prod.snd e2).symm
  have e4 := par_some (hb.drop n) (by intro e; have := congrArg List.length e; simp at this; omega) e3
  have e5 := congrArg (fun x : List Ent × Bool => x.1.length) e2
  simp only [List.length_append] at e5
  omega

/-! ### A function asked of one entry after the other -/

def run {σ : Type} (st : σ → Ent → Bool × σ) : List Ent → Bool → σ → Bool × σ
  | [], b, s => (b, s)
  | E :: L, b, s => if (st s E).1 = true then run st L b (st s E).2 else (false, (st s E).2)
def tst (s : List Ent × ByteArray) (E : Ent) : Bool × (List Ent × ByteArray) := (nx s.2 E, (s.1 ++ [E], E.name))
theorem run_take (b : Bool) : ∀ (L l : List Ent) (a : ByteArray), (run tst L b (l, a)).1 = (b && rise a L) ∧ ((run tst L b (l, a)).1 = true → (run tst L b (l, a)).2.1 = l ++ L)
  | [], l, a => by simp [run, rise]
  | E :: L, l, a => by
    have ih := run_take b L (l ++ [E]) E.name
    unfold run
    rw [rise_cons]
    cases hn : nx a E with
    | true =>
      rw [show (tst (l, a) E).1 = true from hn, if_pos rfl, Bool.true_and]
      refine ⟨ih.1, fun h => ?_⟩
      rw [show (tst (l, a) E).2 = (l ++ [E], E.name) from rfl] at h ⊢
      rw [ih.2 h]
      simp
    | false =>
      rw [show (tst (l, a) E).1 = false from hn, if_neg (by simp)]
      simp
def lst (s : ByteArray) (x : Ent × Int) (E : Ent) : Bool × (Ent × Int) := (Op.bytesLess E.name.toList s.toList, if E.name = s then (E, 0) else x)
/-- The first entry of a name. -/
def lk (s : ByteArray) : List Ent → Ent × Int
  | [] => (z0, 20)
  | E :: L => if E.name = s then (E, 0) else lk s L
theorem lk_none {s : ByteArray} : ∀ {L : List Ent}, (∀ E ∈ L, E.name ≠ s) → lk s L = (z0, 20)
  | [], _ => rfl
  | E :: L, h => by rw [lk, if_neg (h E (by simp))]; exact lk_none (fun X hX => h X (List.mem_cons_of_mem _ hX))
theorem run_look (s : ByteArray) (b : Bool) : ∀ (L : List Ent) (a : ByteArray), rise a L = true → (run (lst s) L b (z0, 20)).2 = lk s L
  | [], a, _ => rfl
  | E :: L, a, h => by
    rw [rise_cons, Bool.and_eq_true] at h
    unfold run lk
    by_cases e : E.name = s
    · rw [show (lst s (z0, 20) E).1 = false by unfold lst; rw [e]; exact bless_irrefl _, if_neg (by simp), if_pos e]
      show (lst s (z0, 20) E).2 = _
      unfold lst
      rw [if_pos e]
    · rw [if_neg e]
      have e2 : (lst s (z0, 20) E).2 = (z0, 20) := by unfold lst; rw [if_neg e]
      cases hl : Op.bytesLess E.name.toList s.toList with
      | true => rw [show (lst s (z0, 20) E).1 = true from hl, if_pos rfl, e2]; exact run_look s b L E.name h.2
      | false =>
        rw [show (lst s (z0, 20) E).1 = false from hl, if_neg (by simp)]
        show (lst s (z0, 20) E).2 = _
        rw [e2, lk_none]
        intro X hX hx
        have := rise_less h.2 X hX
        rw [hx, hl] at this
        cases this
theorem lk_in {s : ByteArray} : ∀ {L : List Ent}, (L.any fun E => decide (E.name = s)) = decide ((lk s L).2 = 0) ∧ ((lk s L).2 = 0 ∨ lk s L = (z0, 20))
  | [] => by simp [lk]
  | E :: L => by
    unfold lk
    by_cases e : E.name = s
    · simp [e]
    · rw [if_neg e, List.any_cons, decide_eq_false e, Bool.false_or]
      exact lk_in
theorem lk_found {L : List Ent} : ∀ {a : ByteArray}, rise a L = true → ∀ E ∈ L, lk E.name L = (E, 0) := by
  induction L with
  | nil => intro a _ E hE; simp at hE
  | cons X L ih =>
    intro a h E hE
    rw [rise_cons, Bool.and_eq_true] at h
    rcases List.mem_cons.1 hE with rfl | hE
    · rw [lk, if_pos rfl]
    · rw [lk, if_neg, ih h.2 E hE]
      intro e
      have := rise_less h.2 E hE
      rw [e, bless_irrefl] at this
      cases this
/-- Lists of which one goes on behind the other. -/
theorem rise_append : ∀ (A : List Ent) (a : ByteArray) (B : List Ent), rise a A = true → rise a (A ++ B) = rise (match A.getLast? with | none => a | some E => E.name) B
  | [], a, B, _ => rfl
  | E :: A, a, B, h => by
    rw [rise_cons, Bool.and_eq_true] at h
    rw [List.cons_append, rise_cons, h.1, Bool.true_and, rise_append A E.name B h.2]
    congr 1
    cases A with
    | nil => rfl
    | cons X A =>
      rw [List.getLast?_cons_cons]
      obtain ⟨y, hy⟩ : ∃ y, (X :: A).getLast? = some y := ⟨_, List.getLast?_eq_some_getLast (by simp)⟩
      rw [hy]
theorem may_append {A B : List Ent} (ha : may A = true) (hb : may B = true) : may (A ++ B) = (decide (A.length = 0) || decide (B.length = 0) || Op.bytesLess (gl A (A.length - 1)).name.toList (gl B 0).name.toList) := by
  unfold may at *
  rw [rise_append A em B ha]
  cases A with
  | nil => simpa using hb
  | cons X A =>
    cases B with
    | nil => simp [rise]
    | cons Y B =>
      have e : (X :: A).getLast? = some (gl (X :: A) ((X :: A).length - 1)) := by
        rw [gl_lt _ _ (by simp), List.getLast?_eq_getElem?, List.getElem?_eq_getElem (by simp)]
      rw [e]
      rw [rise_cons, Bool.and_eq_true] at hb
      have h2 : ok Y = true := by have := hb.1; unfold nx at this; rw [Bool.and_eq_true] at this; exact this.2
      simp only
      rw [rise_cons, hb.2]
      simp [nx, h2, gl]
end Go.Proofs.Ytdenbbljbkpbdaa.Dir

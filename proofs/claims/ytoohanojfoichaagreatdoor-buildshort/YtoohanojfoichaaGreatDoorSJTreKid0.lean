/- What the proof stands on: TreKid0, TreKid, TreLook, with what the proof reaches of it. -/
import Derived.Test.YtoohanojfoichaaGreatDoorSJTreStab4
import Derived.Lib.Bytealg

/- Layer 7: what is within a directory: the pure part; strings.Compare; rows of ints. -/
namespace Go.Proofs.YtoohanojfoichaaGreatDoor
set_option linter.unusedVariables false
open Go.RowKit Go.Maps
open Nam Tre Stb

namespace Tre
theorem compare_neg : ∀ a b : List UInt8, Lib.compareBytes a b < 0 ↔ Op.bytesLess a b = true
  | [], [] => by simp [Lib.compareBytes, Op.bytesLess]
  | [], _ :: _ => by simp [Lib.compareBytes, Op.bytesLess]
  | _ :: _, [] => by simp [Lib.compareBytes, Op.bytesLess]
  | x :: a, y :: b => by
    unfold Lib.compareBytes Op.bytesLess
    have ih := compare_neg a b
    by_cases h : x < y
    · simp [h]
    · by_cases k : y < x
      · have hne : x ≠ y := fun e => by subst e; exact UInt8.lt_irrefl x k
        simp [h, k, hne]
      · have e : x = y := UInt8.le_antisymm (UInt8.not_lt.1 k) (UInt8.not_lt.1 h)
        subst e
        simp [h, ih]
/-- The name of a node at a place of its row. -/
def ky (L : List (Nv × Nod)) (p i : Nat) : List UInt8 := (gs (gl L i).2.names p).toList
/-- Whether a node stands within the directory of these names. -/
def kid (L : List (Nv × Nod)) (k : List ByteArray) (i : Nat) : Bool := decide ((gl L i).2.names.length = k.length + 1) && decide ((gl L i).2.names.take k.length = k)
/-- The order of what is within: by the last name, then by the place. -/
def kl (L : List (Nv × Nod)) (p i j : Nat) : Prop := Op.bytesLess (ky L p i) (ky L p j) = true ∨ (ky L p i = ky L p j ∧ i < j)
def kcm (L : List (Nv × Nod)) (p i j : Nat) : Int := Lib.compareBytes (ky L p i) (ky L p j)
theorem kl_trans (L : List (Nv × Nod)) (p i j k : Nat) (h1 : kl L p i j) (h2 : kl L p j k) : kl L p i k := by
  rcases h1 with h1 | ⟨e1, h1⟩
  · rcases h2 with h2 | ⟨e2, h2⟩
    · exact .inl (bless_trans _ _ _ h1 h2)
    · rw [e2] at h1; exact .inl h1
  · rcases h2 with h2 | ⟨e2, h2⟩
    · rw [← e1] at h2; exact .inl h2
    · exact .inr ⟨e1.trans e2, by omega⟩
theorem kl_odr (L : List (Nv × Nod)) (p : Nat) : Odr (kcm L p) (kl L p) := by
  refine ⟨fun x y _ h => .inl ((compare_neg _ _).1 h), fun x y hxy h => ?_, kl_trans L p⟩
  by_cases e : ky L p y = ky L p x
  · exact .inr ⟨e, hxy⟩
  · rcases bless_total _ _ e with c | c
    · exact .inl c
    · exact absurd ((compare_neg _ _).2 c) h
/-- What is within the directory of these names, in order. -/
structure IsKids (L : List (Nv × Nod)) (k : List ByteArray) (K : List Nat) : Prop where
  pw : K.Pairwise (kl L k.length)
  mem : ∀ i, i ∈ K ↔ (i < L.length ∧ kid L k i = true)
/-- Those among the first i. -/
def kf (L : List (Nv × Nod)) (k : List ByteArray) (i : Nat) : List Nat := (List.range i).filter (kid L k)
theorem kf_succ (L : List (Nv × Nod)) (k : List ByteArray) (i : Nat) : kf L k (i + 1) = if kid L k i = true then kf L k i ++ [i] else kf L k i := by
  unfold kf
  rw [List.range_succ, List.filter_append]
  by_cases h : kid L k i = true
  · rw [if_pos h]; simp [h]
  · rw [if_neg h]; simp [h]
theorem kf_lt {L : List (Nv × Nod)} {k : List ByteArray} {i x : Nat} (h : x ∈ kf L k i) : x < i ∧ kid L k x = true := by
  unfold kf at h
  rw [List.mem_filter] at h
  exact ⟨by simpa using h.1, h.2⟩
theorem kf_length (L : List (Nv × Nod)) (k : List ByteArray) (i : Nat) : (kf L k i).length ≤ i := by
  have := List.length_filter_le (kid L k) (List.range i)
  unfold kf
  simpa using this
theorem kf_rise (L : List (Nv × Nod)) (k : List ByteArray) (i : Nat) : (kf L k i).Pairwise (· < ·) := List.Pairwise.filter _ List.pairwise_lt_range
end Tre
/-- A row of numbers as a function of its place. -/
def fn0 (K : List Nat) : Nat → Nat := fun i => K.getD i 0
theorem fn0_lt (K : List Nat) (i : Nat) (h : i < K.length) : fn0 K i = K[i] := by simp [fn0, h]
theorem ivs_fn0 (K : List Nat) : ivs K.length (fn0 K) = K.map (fun z : Nat => Value.int .i64 (z : Int)) := by
  apply List.ext_getElem
  · simp [ivs]
  · intro i h1 h2
    have hi : i < K.length := by simpa [ivs] using h1
    simp [ivs, fn0, hi]
theorem isKids_of {L : List (Nv × Nod)} {k : List ByteArray} {D : Nat → Nat} (h : Stb.St (kl L k.length) (fn0 (kf L k L.length)) D 0 (kf L k L.length).length) : IsKids L k ((List.range (kf L k L.length).length).map D) := by
  constructor
  · rw [List.pairwise_map]
    refine (List.pairwise_lt_range (n := (kf L k L.length).length)).imp_of_mem ?_
    intro i j hi hj hij
    exact h.srd i j (Nat.zero_le _) hij (by simpa using hj)
  · intro i
    have e : i ∈ (List.range (kf L k L.length).length).map D ↔ In D 0 (kf L k L.length).length i := by
      rw [List.mem_map]
      exact ⟨fun ⟨x, h1, h2⟩ => ⟨x, Nat.zero_le _, by simpa using h1, h2⟩, fun ⟨x, _, h1, h2⟩ => ⟨x, by simpa using h1, h2⟩⟩
    rw [e, h.inn i]
    constructor
    · rintro ⟨x, _, hx, rfl⟩
      have : fn0 (kf L k L.length) x ∈ kf L k L.length := by
        rw [fn0_lt _ _ hx]
        exact List.getElem_mem hx
      exact kf_lt this
    · rintro ⟨h1, h2⟩
      have hm : i ∈ kf L k L.length := by
        unfold kf
        rw [List.mem_filter]
        exact ⟨by simpa using h1, h2⟩
      obtain ⟨x, hx, e⟩ := List.getElem_of_mem hm
      refine ⟨x, Nat.zero_le _, hx, ?_⟩
      rw [fn0_lt _ _ hx]; exact e
/-- A slice of ints in memory. -/
def Ki (w : World) (ao : Option Addr) (m : Nat) (K : List Nat) : Prop := K.length = m ∧ (m = 0 ∨ ∃ b, ao = some ⟨b, 0, none⟩ ∧ b < w.heap.size ∧ ∀ i, i < m → w.cell? ⟨b, i, none⟩ = some (.int .i64 (fn0 K i : Int)))
theorem Ki.of {w : World} {B m c : Nat} {ao : Option Addr} {K : List Nat} (h : w.ownsRow B 3 1 (.slice ao m c) m (K.map (fun z : Nat => Value.int .i64 (z : Int)))) : Ki w ao m K := by
  have hl : K.length = m := by have := h.1; simpa using this
  refine ⟨hl, ?_⟩
  by_cases hm0 : m = 0
  · exact .inl hm0
  · obtain ⟨g, c', hv, hg, _⟩ := h.form (by omega)
    obtain ⟨rfl, rfl⟩ : ao = some ⟨g, 0, none⟩ ∧ c = c' := by simpa using hv
    refine .inr ⟨g, rfl, (h.lt g rfl).2, fun i hi => ?_⟩
    rw [h.cellAt i (by omega)]
    simp [fn0, hl, hi]
theorem infoInt7 : (Tryz.prog.info? 3).map (fun i => (i.zero, i.size, i.bytes)) = some (some (.int .i64 0), 1, 8) := by kernel_rfl
theorem wpList_append_int (w : World) {ops : Array Oper} {rest : List Oper} {o : Oper} {a : Act} {Q : Exit → Act → World → Prop} (hgd : o.guard = none) (s x : Operand)
    (ho : o.op = .call { callee := .builtin .append, args := #[s, x], argTypes := #[49, 49] })
    (base : Nat) (vo : Option Addr) (n vc : Nat) (l : List Nat) (hs : a.eval s = .slice vo n vc) (hown : w.ownsRow base 3 1 (.slice vo n vc) n (l.map (fun z : Nat => Value.int .i64 (z : Int))))
    (p : Nat) (t : Nat) (hx : a.eval x = .slice (some ⟨p, 0, none⟩) 1 1) (hp : w.cell? ⟨p, 0, none⟩ = some (.int .i64 (t : Int)))
    (hbd : n + 1 ≤ 100000000) (hbase : base ≤ w.heap.size)
    (h : ∀ ao' c' w', w'.ownsRow base 3 1 (.slice ao' (n + 1) c') (n + 1) ((l ++ [t]).map (fun z : Nat => Value.int .i64 (z : Int))) → w.grownBy w' (Value.slice vo n vc).ownBlock → wpList Tryz.prog ops Q rest (a.put o.dst (.slice ao' (n + 1) c')) w') :
    wpList Tryz.prog ops Q (o :: rest) a w := by
  obtain ⟨i0, hi, hz0, hz1, hz2⟩ := info_parts infoInt7
  refine wpList_append_own w hgd s x _ ho base 3 i0 (.int .i64 0) 1 8 Tryz.underlying49 hi hz0 hz1 hz2 rfl (by decide) _ n _ hs hown ⟨p, 0, none⟩ 1 1 [.int .i64 (t : Int)] hx (by simp) ?_ (by simp; rfl) (by unfold maxLen; omega) (by omega) hbase ?_
  · intro j u hj
    match j, hj with
    | 0, hj => simp at hj; subst hj; simpa [Addr.add] using hp
  · intro v' w' h2 h3 _
    obtain ⟨ao', c', rfl⟩ := owns_shape h2
    exact h ao' c' w' (by rw [List.map_append]; exact h2) h3
set_option maxRecDepth 100000 in
set_option maxHeartbeats 1000000 in
theorem compareString_any (s t : ByteArray) (w : World) : Calls Tryz.prog 201 #[.string s, .string t] w fun e w' => e = .returned (.int .i64 (Lib.compareBytes s.toList t.toList)) ∧ w' = w := by
  go_enter Tryz.func201, Tryz.ntmps201
  go_wp2
  rw [run_callFunc_extern Tryz.func212 (by kernel_rfl) (by kernel_rfl) (by kernel_rfl) (e := Extern.BytealgCompare.compare) (by kernel_rfl), Lib.run_compareString]
  simp only [Result.andThen]
  rw [Oper.upon_value]
  go_wp2
  go_ret
  exact ⟨ret_int (by rw [ByteArray.toList_eq, ByteArray.toList_eq]), rfl⟩
theorem strCompare_any (s t : ByteArray) (w : World) : Calls Tryz.prog 181 #[.string s, .string t] w fun e w' => e = .returned (.int .i64 (Lib.compareBytes s.toList t.toList)) ∧ w' = w := by
  go_enter Tryz.func181, Tryz.ntmps181
  go_wp2_with (go_at_call 201; refine (compareString_any _ _ _).mono ?_; rintro e w' ⟨rfl, rfl⟩)
  go_ret
  exact ⟨rfl, rfl⟩
end Go.Proofs.YtoohanojfoichaaGreatDoor

/- Layer 7: tree.Kids, walked. -/
namespace Go.Proofs.YtoohanojfoichaaGreatDoor
set_option linter.unusedVariables false
open Go.RowKit Go.Maps
open Nam Tre Stb

set_option maxRecDepth 100000 in
set_option maxHeartbeats 1000000 in
theorem kids1_any (a : Option Addr) (n c : Nat) (L : List (Nv × Nod)) (b : Option Addr) (m d : Nat) (k : List ByteArray) (p2 p3 : Nat) (x y : Nat) (w : World) (hl : Ns w a n L) (hk : Rs w b m k) (hx : x < n) (hy : y < n) (hkx : kid L k x = true) (hky : kid L k y = true) (hn : n ≤ 1000) (hm : m ≤ 1000000)
    (h2 : w.cell? ⟨p2, 0, none⟩ = some (.slice a n c)) (h3 : w.cell? ⟨p3, 0, none⟩ = some (.slice b m d)) :
    Calls Tryz.prog 180 (#[.int .i64 (x : Int), .int .i64 (y : Int)] ++ #[.pointer (some ⟨p2, 0, none⟩), .pointer (some ⟨p3, 0, none⟩)]) w fun e w' => e = .returned (.int .i64 (kcm L k.length x y)) ∧ ∃ q, w' = w.drewN q := by
  have hLn := hl.1
  have hkl : k.length = m := hk.1
  obtain ⟨ba, oa, rfl, hba, hca⟩ := hl.at (by omega)
  have e1 := (hca x hx).c0
  have e2 := (hca y hy).c0
  have r1 := hl.2.1 _ (gl_mem L x (by omega))
  have r2 := hl.2.1 _ (gl_mem L y (by omega))
  have n1 := r1.names.1
  have n2 := r2.names.1
  simp only [kid, Bool.and_eq_true, decide_eq_true_eq] at hkx hky
  obtain ⟨b1, o1, f1, g1, s1⟩ : ∃ b off, (gl L x).1.na = some ⟨b, off, none⟩ ∧ b < w.heap.size ∧ ∀ i, i < (gl L x).2.names.length → w.cell? ⟨b, off + i, none⟩ = some (.string (gs (gl L x).2.names i)) := by
    rcases r1.names.2 with h | h
    · omega
    · exact h
  obtain ⟨b2, o2, f2, g2, s2⟩ : ∃ b off, (gl L y).1.na = some ⟨b, off, none⟩ ∧ b < w.heap.size ∧ ∀ i, i < (gl L y).2.names.length → w.cell? ⟨b, off + i, none⟩ = some (.string (gs (gl L y).2.names i)) := by
    rcases r2.names.2 with h | h
    · omega
    · exact h
  have t1 := s1 m (by omega)
  have t2 := s2 m (by omega)
  rw [f1] at e1
  rw [f2] at e2
  have i1 : (x : Int) < n := by omega
  have i2 : (y : Int) < n := by omega
  have l1 : (m : Int) < ((gl L x).1.nn : Nat) := by omega
  have l2 : (m : Int) < ((gl L y).1.nn : Nat) := by omega
  have HE : Hid (kcm L k.length x y = Lib.compareBytes (gs (gl L x).2.names m).toList (gs (gl L y).2.names m).toList) := by
    show _ = _
    unfold kcm ky
    rw [hkl]
  generalize gs (gl L x).2.names m = u1 at *
  generalize gs (gl L y).2.names m = u2 at *
  generalize (gl L x).1.nn = q1 at *
  generalize (gl L y).1.nn = q2 at *
  generalize (gl L x).1.nc = q3 at *
  generalize (gl L y).1.nc = q4 at *
  clear hl hk hca r1 r2 s1 s2 hkx hky n1 n2 f1 f2 hkl hLn
  show Calls Tryz.prog 180 #[.int .i64 (x : Int), .int .i64 (y : Int), .pointer (some ⟨p2, 0, none⟩), .pointer (some ⟨p3, 0, none⟩)] w _
  go_enter Tryz.func180, Tryz.ntmps180
  go_wp2_with fail
  go_quiet ((go_at_call 181; refine Calls.quiet_of_same (strCompare_any _ _ _)))
  go_wp2
  go_ret
  exact ⟨ret_int HE.out.symm, _, rfl⟩
theorem kid_below {L : List (Nv × Nod)} {k : List ByteArray} {i : Nat} (h : (gl L i).2.names.length = k.length + 1) : below (nm (gl L i).2.names) (nm k) = kid L k i := by
  unfold below kid
  rw [nm_length, nm_length, ← nm_take, decide_eq_true h, decide_eq_true (show k.length < (gl L i).2.names.length by omega), nm_dec]
theorem kid_short {L : List (Nv × Nod)} {k : List ByteArray} {i : Nat} (h : (gl L i).2.names.length ≠ k.length + 1) : kid L k i = false := by
  unfold kid
  rw [decide_eq_false h]; rfl
theorem bdn {B : Nat} {a w : World} (h : Below B a w) (q : Nat) : Below B a (w.drewN q) := ⟨h.os, h.tape, h.output, h.size, h.block⟩
theorem owns_drewN {w : World} {B e size n : Nat} {v : Value} {xs : List Value} (h : w.ownsRow B e size v n xs) (q : Nat) : (w.drewN q).ownsRow B e size v n xs := h
theorem rise_fn0 {K : List Nat} (h : K.Pairwise (· < ·)) {i j : Nat} (hij : i < j) (hj : j < K.length) : fn0 K i < fn0 K j := by
  rw [fn0_lt K i (by omega), fn0_lt K j hj]
  exact List.pairwise_iff_getElem.1 h i j (by omega) hj hij
theorem ivs_map (n : Nat) (D : Nat → Nat) : ivs n D = ((List.range n).map D).map (fun z : Nat => Value.int .i64 (z : Int)) := by
  unfold ivs; rw [List.map_map]; rfl
set_option maxRecDepth 100000 in
set_option maxHeartbeats 2000000 in
theorem Kids_new (a : Option Addr) (n c : Nat) (L : List (Nv × Nod)) (b : Option Addr) (m d : Nat) (k : List ByteArray) (w : World) (hl : Ns w a n L) (hc : n ≤ c) (hcm : c ≤ 9223372036854775807) (hk : Rs w b m k) (hmd : m ≤ 9223372036854775807) (h20 : ∀ p ∈ L, p.2.names.length ≤ 1000000) (hn : n ≤ 60) :
    Calls Tryz.prog 135 #[.slice a n c, .slice b m d] w fun e w' => ∃ ao kn kc K, e = .returned (.slice ao kn kc) ∧ Ki w' ao kn K ∧ kn ≤ 60 ∧ kn ≤ kc ∧ kc ≤ 9223372036854775807 ∧ IsKids L k K ∧ Below w.heap.size w w' ∧ (0 < kn → ∀ p, ao = some p → w.heap.size ≤ p.block) := by
  have HL := hide hl
  have HLN := hide hl.1
  have HK := hide hk
  have H20 := hide h20
  obtain ⟨W2, hW2⟩ : ∃ W2, W2 = (w.alloc (.cells #[.slice a n c] 22)).alloc (.cells #[.slice b m d] 43) := ⟨_, rfl⟩
  have hbW : Below w.heap.size w W2 := by rw [hW2]; exact ((Below.refl _ _).alloc (Nat.le_refl _) _).alloc (by simp) _
  have hsz : W2.heap.size = w.heap.size + 2 := by rw [hW2]; simp
  have hp2 : W2.cell? ⟨w.heap.size, 0, none⟩ = some (.slice a n c) := by rw [hW2]; simp
  have hp3 : W2.cell? ⟨w.heap.size + 1, 0, none⟩ = some (.slice b m d) := by rw [hW2]; simp
  have HBW := hide hbW
  have HSZ := hide hsz
  have HW2 := hide hW2
  have HP2 : Hid (∀ W, Below W2.heap.size W2 W → W.cell? ⟨w.heap.size, 0, none⟩ = some (.slice a n c)) := fun W h => (h.cell (by rw [hsz]; simp)).trans hp2
  have HP3 : Hid (∀ W, Below W2.heap.size W2 W → W.cell? ⟨w.heap.size + 1, 0, none⟩ = some (.slice b m d)) := fun W h => (h.cell (by rw [hsz]; simp)).trans hp3
  have HLW : Hid (∀ W, Below W2.heap.size W2 W → Below w.heap.size w W) := fun W h => hbW.trans (h.mono (by omega))
  clear hl hk h20 hbW hsz hp2 hp3
  go_enter Tryz.func135, Tryz.ntmps135
  go_wp2
  rw [← hW2]
  clear hW2
  go_loopw [5, 6, 7, 10] (fun r5 _ _ r10 wr => ∃ (i kn kc : Nat) (ko : Option Addr), r5 = .slice ko kn kc ∧ r10 = .int .i64 i ∧ i ≤ n ∧ kn = (kf L k i).length ∧ wr.ownsRow W2.heap.size 3 1 (.slice ko kn kc) kn ((kf L k i).map (fun z : Nat => Value.int .i64 (z : Int))) ∧ Below W2.heap.size W2 wr) (fun _ _ _ r10 _ => n - (intOf r10).toNat)
  case atStart => exact ⟨0, 0, 0, none, rfl, rfl, Nat.zero_le _, rfl, ⟨rfl, .inl ⟨rfl, rfl⟩⟩, Below.refl _ _⟩
  case round =>
    obtain ⟨i, kn, kc, ko, rfl, rfl, hi0, hkn, hown, hbel⟩ := hrel
    have HB := hide hbel
    have HO := hide hown
    have hkn2 := kf_length L k i
    rw [← hkn] at hkn2
    have HKN := hide hkn
    have hs2 := hbel.size
    by_cases hi : i < n
    · have hd : decide ((i : Int) < n) = true := by simpa using hi
      have hil : i < L.length := by rw [HLN.out]; exact hi
      obtain ⟨ba, oa, hao, hba, hca⟩ := (HL.out.below (HLW.out _ hbel)).at (by omega)
      subst hao
      obtain ⟨c0, c1, c2, c3, c4, c5, c6, c7, c8, c9⟩ := hca i hi
      have hrep := (HL.out.below (HLW.out _ hbel)).2.1 _ (gl_mem L i hil)
      have cb : ∀ o, (wr.alloc o).cell? ⟨w.heap.size + 1, 0, none⟩ = some (.slice b m d) := fun o => HP3.out _ (hbel.alloc hs2 _)
      have i1 : (i : Int) < n := by omega
      have hnl := hrep.names.1
      have hnm := H20.out _ (gl_mem L i hil)
      have HKS := hide (kf_succ L k i)
      have hkm : k.length = m := HK.out.1
      have e1 := hide (fun o : Obj => (HB.out.alloc hs2 o))
      by_cases hlen : (gl L i).1.nn = m + 1
      · obtain ⟨m1, hm1⟩ : ∃ m1, m1 = m + 1 := ⟨_, rfl⟩
        have vm : IntKind.i64.wrap ((m : Int) + 1) = (m1 : Int) := by rw [IntWalk.i64_in _ (by omega)]; omega
        have HKB := hide (kid_below (L := L) (k := k) (i := i) (by omega))
        have HCA := hide (fun o => Below_any (gl L i).1.na b (gl L i).1.nn (gl L i).1.nc m d (gl L i).2.names k (wr.alloc o) ((HL.out.below (HLW.out _ (e1.out o))).2.1 _ (gl_mem L i hil)).names (HK.out.below (HLW.out _ (e1.out o))) (by omega) (by omega) hrep.nc hrep.ncm)
        rw [hlen, ← hm1] at c0 HCA
        generalize (gl L i).1 = v at *
        generalize below (nm (gl L i).2.names) (nm k) = z at *
        clear hca hrep hnl hnm hown hbel hkm hlen hm1 hkn
        cases z
        · have HKF : Hid (kf L k (i + 1) = kf L k i) := by
            show _ = _
            rw [HKS.out, ← HKB.out]; rfl
          go_wp2_with (go_at_call 178; refine (HCA.out _).mono ?_; rintro e0 w1 ⟨rfl, q, rfl⟩)
          refine ⟨⟨i + 1, kn, kc, ko, rfl, by go_num, by omega, by rw [HKF.out]; exact HKN.out, by rw [HKF.out]; exact HO.out.alloc _, ?_⟩, by simp [intOf]; omega⟩
          exact bdn (e1.out _) q
        · have HKF : Hid (kf L k (i + 1) = kf L k i ++ [i]) := by
            show _ = _
            rw [HKS.out, ← HKB.out]; rfl
          go_wp2_with (first | (go_at_call 178; refine (HCA.out _).mono ?_; rintro e0 w1 ⟨rfl, q, rfl⟩) | (at_builtin; refine wpList_append_int _ rfl _ _ rfl W2.heap.size _ _ _ (kf L k i) rfl ?_ _ i rfl ?_ (by omega) ?_ ?_))
          · exact (owns_drewN (HO.out.alloc _) q).alloc _
          · rw [World.cell?_alloc_at _ _ _ _ (by simp)]; rfl
          · simp; omega
          intro ao' c' w' hown2 hg2
          have HE2 := hide hown2
          have HE3 := hide (((bdn (e1.out _) q).alloc (by simp; omega) _).grown hg2 (by simp; omega) (fun x e => (HO.out.lt x e).1))
          clear hown2 hg2
          go_wp2
          refine ⟨⟨i + 1, kn + 1, c', ao', rfl, by go_num, by omega, by rw [HKF.out, List.length_append, ← HKN.out]; rfl, by rw [HKF.out, List.map_append]; exact HE2.out, HE3.out⟩, by simp [intOf]; omega⟩
      · have HKF : Hid (kf L k (i + 1) = kf L k i) := by
          show _ = _
          rw [HKS.out, kid_short (by omega)]; rfl
        obtain ⟨z, hz⟩ : ∃ z, IntKind.i64.wrap ((m : Int) + 1) = z := ⟨_, rfl⟩
        have hzz : (((gl L i).1.nn : Int) == z) = false := by
          have : ((gl L i).1.nn : Int) ≠ z := by
            rw [← hz]
            by_cases hm9 : m + 1 ≤ 9223372036854775807
            · rw [IntWalk.i64_in _ (by omega)]; omega
            · obtain rfl : m = 9223372036854775807 := by omega
              have : IntKind.i64.wrap (((9223372036854775807 : Nat) : Int) + 1) = -9223372036854775808 := by decide
              rw [this]; omega
          simpa using this
        have hzz2 : ¬ (((gl L i).1.nn : Int) = z) := by simpa using hzz
        generalize (gl L i).1 = v at *
        clear hca hrep hnl hnm hown hbel hkm hlen hkn
        go_wp2
        refine ⟨⟨i + 1, kn, kc, ko, rfl, by go_num, by omega, by rw [HKF.out]; exact HKN.out, by rw [HKF.out]; exact HO.out.alloc _, e1.out _⟩, by simp [intOf]; omega⟩
    · have hd : decide ((i : Int) < n) = false := by simpa using hi
      obtain rfl : i = n := by omega
      have hcap := cap_owns hown
      by_cases h0 : kn = 0
      · subst h0
        have HF : Hid (IsKids L k []) := by
          have := isKids_of (L := L) (k := k) (D := fun _ => 0) ⟨fun x y h1 h2 h3 => by rw [HLN.out, ← hkn] at h3; omega, fun x => by
            rw [HLN.out, ← hkn]
            exact ⟨fun ⟨y, h1, h2, _⟩ => by omega, fun ⟨y, h1, h2, _⟩ => by omega⟩⟩
          rw [HLN.out, ← hkn] at this
          exact this
        clear hown hbel hkn
        go_wp2_with (go_at_call 179; refine (SortStable_none _ _ _ _).mono ?_; rintro e0 w1 ⟨rfl, rfl⟩)
        go_ret
        exact ⟨_, _, _, [], rfl, ⟨rfl, .inl rfl⟩, by omega, by omega, hcap.2.1, HF.out, HLW.out _ HB.out, fun h => by omega⟩
      · obtain ⟨g, kc', hv, hg1, hg2⟩ := hown.form (by omega)
        obtain ⟨rfl, rfl⟩ : ko = some ⟨g, 0, none⟩ ∧ kc = kc' := by simpa using hv
        have hg3 := hown.lt g rfl
        have HIR : Hid (IR wr W2.heap.size g kn kc wr (fn0 (kf L k i))) := by
          refine ⟨?_, Below.refl _ _⟩
          have := ivs_fn0 (kf L k i)
          rw [← hkn] at this
          rw [this]; exact hown
        have HCM : Hid (Cmps 180 #[.pointer (some ⟨w.heap.size, 0, none⟩), .pointer (some ⟨w.heap.size + 1, 0, none⟩)] (kcm L k.length) (fun x => x < i ∧ kid L k x = true) wr g) := by
          intro w' hb x y hx hy
          have hb2 : Below w.heap.size w w' := (HLW.out _ hbel).trans (hb.mono (by have := HSZ.out; omega))
          have hs3 := HSZ.out
          refine kids1_any a i c L b m d k _ _ x y w' (HL.out.below hb2) (HK.out.below hb2) hx.1 hy.1 hx.2 hy.2 (by omega) ?_ ((hb.cell (by show w.heap.size < g; omega)).trans (HP2.out _ hbel)) ((hb.cell (by show w.heap.size + 1 < g; omega)).trans (HP3.out _ hbel))
          have h1 := hx.2
          simp only [kid, Bool.and_eq_true, decide_eq_true_eq] at h1
          have h2 := H20.out _ (gl_mem L x (by rw [HLN.out]; exact hx.1))
          have h3 := HK.out.1
          omega
        have HCA := hide (SortStable_any wr W2.heap.size g kn kc 180 _ (kcm L k.length) (kl L k.length) (fun x => x < i ∧ kid L k x = true) (fn0 (kf L k i)) wr (enters _ Tryz.func180 (by kernel_rfl) rfl) HCM.out (kl_odr L _) HIR.out (by omega) (fun x hx => by
            have hx' : x < (kf L k i).length := by rw [← hkn]; exact hx
            have : fn0 (kf L k i) x ∈ kf L k i := by rw [fn0_lt _ _ hx']; exact List.getElem_mem hx'
            exact kf_lt this) (fun x y h1 h2 => rise_fn0 (kf_rise L k i) h1 (by rw [← hkn]; exact h2)))
        clear hown hbel hv hkn
        go_wp2_with (go_at_call 179; refine HCA.out.mono ?_; rintro e0 w1 ⟨rfl, D, hir, hst⟩; have HE1 := hide hir; have HE2 := hide hst; clear hir hst HCA)
        go_ret
        refine ⟨_, _, _, (List.range kn).map D, rfl, Ki.of (by rw [← ivs_map]; exact HE1.out.row), by omega, by omega, hcap.2.1, ?_, ?_, fun _ p e => by cases e; have := HSZ.out; show w.heap.size ≤ g; omega⟩
        · have hf := HE2.out
          have e1 := HLN.out
          rw [HKN.out] at hf
          rw [← e1] at hf
          have := isKids_of hf
          rw [e1, ← HKN.out] at this
          exact this
        · exact (HLW.out _ HB.out).trans (HE1.out.bel.mono (by have := HSZ.out; omega))
end Go.Proofs.YtoohanojfoichaaGreatDoor

/- Layer 7: tree.Find, tree.Links and the reference's Links, walked. -/
namespace Go.Proofs.YtoohanojfoichaaGreatDoor
set_option linter.unusedVariables false
open Go.RowKit Go.Maps
open Nam Tre Stb

namespace Tre
/-- How many of the first i nodes have this Ino. -/
def cn (L : List (Nv × Nod)) (z : Int) (i : Nat) : Nat := ((L.take i).filter (fun p => p.1.ino == z)).length
theorem cn_zero (L : List (Nv × Nod)) (z : Int) : cn L z 0 = 0 := by simp [cn]
theorem cn_succ (L : List (Nv × Nod)) (z : Int) (i : Nat) (h : i < L.length) : cn L z (i + 1) = if ((gl L i).1.ino == z) = true then cn L z i + 1 else cn L z i := by
  unfold cn
  rw [List.take_succ_eq_append_getElem h, List.filter_append, List.length_append, gl_lt L i h]
  by_cases c : (L[i].1.ino == z) = true
  · rw [if_pos c]; simp [c]
  · rw [if_neg c]; simp [c]
theorem cn_le (L : List (Nv × Nod)) (z : Int) (i : Nat) : cn L z i ≤ i := by
  have := List.length_filter_le (fun p : Nv × Nod => p.1.ino == z) (L.take i)
  unfold cn
  have h2 : (L.take i).length ≤ i := by simp; omega
  omega
/-- How many nodes are one with the x-th. -/
def lks (L : List (Nv × Nod)) (x : Int) : Int := if 0 ≤ x ∧ x < L.length then cn L (gl L x.toNat).1.ino L.length else 0
end Tre
set_option maxRecDepth 100000 in
set_option maxHeartbeats 1000000 in
theorem Links_any (a : Option Addr) (n c : Nat) (L : List (Nv × Nod)) (x : Int) (w : World) (hl : Ns w a n L) (hc : n ≤ c) (hcm : c ≤ 9223372036854775807) :
    Calls Tryz.prog 47 #[.slice a n c, .int .i64 x] w fun e w' => e = .returned (.int .i64 (lks L x)) ∧ Below w.heap.size w w' := by
  have HL := hide hl
  have HLN := hide hl.1
  by_cases hx0 : x < 0
  · have hd : decide (x < 0) = true := by simpa using hx0
    have HE : Hid ((0 : Int) = lks L x) := by show _ = _; unfold lks; rw [if_neg (by omega)]
    clear hl
    go_enter Tryz.func47, Tryz.ntmps47
    go_wp2
    go_ret
    exact ⟨ret_int HE.out, Below.refl _ _⟩
  · have hd : decide (x < 0) = false := by simpa using hx0
    by_cases hxn : x < n
    · have hd2 : decide (x ≥ (n : Int)) = false := by simp; omega
      have hd3 : decide ((n : Int) ≤ x) = false := by simp; omega
      obtain ⟨j, rfl⟩ : ∃ j : Nat, x = j := ⟨x.toNat, by omega⟩
      have hj : j < n := by omega
      have HE : Hid (lks L j = cn L (gl L j).1.ino n) := by show _ = _; unfold lks; rw [if_pos (by rw [HLN.out]; omega), HLN.out]; simp
      clear hl
      go_enter Tryz.func47, Tryz.ntmps47
      go_wp2
      go_loopw [5, 7, 18] (fun r5 _ r18 wr => ∃ i : Nat, r5 = .int .i64 (cn L (gl L j).1.ino i : Nat) ∧ r18 = .int .i64 i ∧ i ≤ n ∧ Below w.heap.size w wr) (fun _ _ r18 _ => n - (intOf r18).toNat)
      case atStart => exact ⟨0, by rw [cn_zero]; rfl, rfl, Nat.zero_le _, Below.refl _ _⟩
      case round =>
        obtain ⟨i, rfl, rfl, hi0, hbel⟩ := hrel
        have HB := hide hbel
        have hq := cn_le L (gl L j).1.ino i
        by_cases hi : i < n
        · have hd : decide ((i : Int) < n) = true := by simpa using hi
          have hil : i < L.length := by rw [HLN.out]; exact hi
          obtain ⟨ba, oa, rfl, hba, hca⟩ := (HL.out.below hbel).at (by omega)
          obtain ⟨c0, c1, c2, c3, c4, c5, c6, c7, c8, c9⟩ := hca i hi
          have cj : ∀ o, (wr.alloc o).cell? ⟨ba, oa + j * 10 + 1, none⟩ = some (.int .i64 (gl L j).1.ino) := fun o => (((Below.refl wr.heap.size wr).alloc (Nat.le_refl _) o).cell hba).trans (hca j hj).c1
          have i1 : (i : Int) < n := by omega
          have HS := hide (cn_succ L (gl L j).1.ino i hil)
          have e1 := hide (fun o : Obj => (HB.out.alloc hbel.size o))
          generalize (gl L j).1.ino = z at *
          generalize hq' : cn L z i = q at *
          generalize (gl L i).1 = v at *
          clear hca hbel hq'
          by_cases hz : v.ino = z
          · have hz1 : (v.ino == z) = true := by simpa using hz
            rw [hz1] at HS
            have hw : IntKind.i64.wrap ((q : Int) + 1) = (q : Int) + 1 := IntWalk.i64_in _ (by omega)
            clear hz
            go_wp2_with fail
            go_quiet (fail)
            go_wp2
            refine ⟨⟨i + 1, by rw [HS.out]; simp, by go_num, by omega, bdn (e1.out _) _⟩, by simp [intOf]; omega⟩
          · have hz1 : (v.ino == z) = false := by simpa using hz
            rw [hz1] at HS
            clear hz
            go_wp2_with fail
            go_quiet (fail)
            go_wp2
            refine ⟨⟨i + 1, by rw [HS.out]; simp, by go_num, by omega, bdn (e1.out _) _⟩, by simp [intOf]; omega⟩
        · have hd : decide ((i : Int) < n) = false := by simpa using hi
          obtain rfl : i = n := by omega
          clear hbel
          go_wp2
          go_ret
          exact ⟨ret_int HE.out.symm, HB.out⟩
    · have hd2 : decide (x ≥ (n : Int)) = true := by simp; omega
      have hd3 : decide ((n : Int) ≤ x) = true := by simp; omega
      have HE : Hid ((0 : Int) = lks L x) := by show _ = _; unfold lks; rw [if_neg (by rw [HLN.out]; omega)]
      clear hl
      go_enter Tryz.func47, Tryz.ntmps47
      go_wp2
      go_ret
      exact ⟨ret_int HE.out, Below.refl _ _⟩
end Go.Proofs.YtoohanojfoichaaGreatDoor

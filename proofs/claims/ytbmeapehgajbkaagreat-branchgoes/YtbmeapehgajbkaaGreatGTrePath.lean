import Derived.Test.YtbmeapehgajbkaaGreatGJTreAlike
import Derived.Test.YtbmeapehgajbkaaGreatGJNamClone
import Derived.Deep.RegionHeld3
set_option linter.unusedVariables false
namespace Go.Proofs.YtbmeapehgajbkaaGreat
open Go.RowKit Go.Maps
open Nam Tre
theorem make_hint (n : Nat) (w : World) : (Instr.makeMap 71 (some (.int .i64 (n : Int)))).run Tryz.prog w = .ok (.map (some w.heap.size)) (w.alloc (.map #[] 0)) := by
 simp [Instr.makeMap, run_underlying Tryz.underlying71, asInt, asIntOf, Result.andThen]
theorem jn_bound (l : List ByteArray) (k : Nat) (hs : ∀ s ∈ l, s.size ≤ 255) : (jn l).length ≤ 256 * l.length := by
 induction l with
 | nil => simp [jn, nm]
 | cons a r ih =>
  have h1 := hs a (by simp)
  have h2 := ih (fun s hs' => hs s (by simp [hs']))
  have : jn (a :: r) = (47 :: a.toList) ++ jn r := by simp [jn, nm]
  rw [this, List.length_append, List.length_cons, toList_length, List.length_cons]
  omega
namespace Tre
def Short (l : List ByteArray) : Prop := l.length ≤ 16 ∧ ∀ s ∈ l, s.size ≤ 255
theorem Short.jn {l : List ByteArray} (h : Short l) : (jn l).length ≤ 1000000000 := by
 have := jn_bound l 0 h.2
 have := h.1
 omega
def pkey (m : List ByteArray) : Lit := .string (join (nm m))
def pkeys (l : List Nod) : List Lit := l.map (fun n => pkey n.names)
theorem pkeys_length (l : List Nod) : (pkeys l).length = l.length := by simp [pkeys]
theorem pkeys_lit (l : List Nod) : ∀ k ∈ pkeys l, WideAt.IsKeyLit k := by
 intro k hk
 simp only [pkeys, List.mem_map] at hk
 obtain ⟨n, _, rfl⟩ := hk
 exact trivial
end Tre
theorem pkeys_at (L : List (Nv × Nod)) (i : Nat) (h : i < L.length) : (pkeys (nds L)).getD i (.bool false) = pkey (gl L i).2.names := by
 have : i < (pkeys (nds L)).length := by rw [pkeys_length, nds_length]; exact h
 rw [List.getD_eq_getElem?_getD, List.getElem?_eq_getElem this, Option.getD_some, gl_lt L i h]
 simp [pkeys, nds]
theorem Short.join {m : List ByteArray} (h : Short m) : (join (nm m)).length ≤ 1000000000 := by
 by_cases e : m = []
 ·subst e; simp [nm, Nam.join]
 ·rw [join_jn m e]; exact h.jn
theorem joinKey (m : List ByteArray) (h : Short m) : keyOf Tryz.prog 9 (.string ⟨(join (nm m)).toArray⟩) = some (pkey m) := by
 rw [keyStr]
 ·rfl
 ·have := Short.join h
  unfold maxLen
  show (join (nm m)).toArray.size ≤ _
  simp; omega
theorem mapUnder : Tryz.prog.underlying 71 = some (.map 9 3) := Tryz.underlying71
set_option maxRecDepth 100000 in
theorem byPath_any (a : Option Addr) (n c : Nat) (L : List (Nv × Nod)) (w : World) (hl : Ns w a n L) (hc : n ≤ c) (hcm : c ≤ 9223372036854775807) (hn : n ≤ 100000) (hsh : ∀ p ∈ L, Short p.2.names) :
  Calls Tryz.prog 54 #[.slice a n c] w fun e w' => ∃ b, e = .returned (.map (some b)) ∧ w.heap.size ≤ b ∧ MpK 9 w' b (mcnt (pkeys (nds L)) n) (mlast (pkeys (nds L)) n) ∧ Below w.heap.size w w' := by
 have HL := hide hl
 have HLN := hide hl.1
 have HS := hide hsh
 have hn' : (n : Int) ≤ 100000 := by omega
 clear hl hsh
 have mk := make_hint n
 go_enter Tryz.func54, Tryz.ntmps54
 go_wp2
 go_loopw [4, 5, 11] (fun _ _ r wr => ∃ i : Nat, r = .int .i64 i ∧ i ≤ n ∧ Below w.heap.size w wr ∧ MpK 9 wr w.heap.size (mcnt (pkeys (nds L)) i) (mlast (pkeys (nds L)) i)) (fun _ _ r _ => n - (intOf r).toNat)
 case atStart => exact ⟨0, rfl, Nat.zero_le _, (Below.refl _ _).alloc (Nat.le_refl _) _, mpk_new _ w⟩
 case round =>
  obtain ⟨i, rfl, hi0, hbel, hmp⟩ := hrel
  have HB := hide hbel
  have HM := hide hmp
  by_cases hi : i < n
  ·have hd : decide ((i : Int) < n) = true := by simpa using hi
   obtain ⟨ba, oa, rfl, hba, hca⟩ := (HL.out.below hbel).at (by omega)
   obtain ⟨c0, c1, c2, c3, c4, c5, c6, c7, c8, c9⟩ := hca i hi
   have hr := HL.out.rep i hi
   have HR := hide hr.names
   have hshi := HS.out (gl L i) (gl_mem L i (by rw [HLN.out]; exact hi))
   have HSh := hide hshi
   have hnn : (gl L i).1.nn ≤ 1000000 := by have := hr.names.1; have := hshi.1; omega
   have HK := hide (pkeys_at L i (by rw [HLN.out]; exact hi))
   have bel : Hid (∀ o, Below w.heap.size w (wr.alloc o)) := fun o => HB.out.alloc HB.out.size _
   have hsz := hmp.lt
   clear hca hbel hmp hr hshi mk
   go_wp2_with (go_at_call 81; refine (Join_any _ _ _ (gl L i).2.names _ (HR.out.below (bel.out _)) hnn HSh.out.jn).mono ?_)
   rintro e w1 ⟨rfl, hb1⟩
   have e1 := hide ((bel.out _).trans (hb1.mono (bel.out _).size))
   have hm1 : MpK 9 w1 w.heap.size (mcnt (pkeys (nds L)) i) (mlast (pkeys (nds L)) i) := (HM.out.below ((Below.refl _ wr).alloc (Nat.le_refl _) _)).below hb1
   obtain ⟨w2, hrun, hm2, hg2⟩ := hm1.store keyedStr mapUnder (joinKey (gl L i).2.names HSh.out) trivial (by have := mcnt_le (ks := pkeys (nds L)) i; omega) i
   have HM2 := hide hm2
   have e2 := hide (e1.out.grown hg2 e1.out.size (fun k hk => by cases hk; exact Nat.le_refl _))
   clear hm1 hm2 hg2 hb1
   go_wp2
   refine ⟨⟨i + 1, by go_num, by omega, e2.out, ?_⟩, by simp [intOf]; omega⟩
   rw [mcnt, mlast, HK.out]
   exact HM2.out
  ·have hd : decide ((i : Int) < n) = false := by simpa using hi
   have e : i = n := by omega
   rw [e] at hmp
   have HM2 := hide hmp
   clear hmp hbel e HM mk
   go_wp2
   go_ret
   exact ⟨w.heap.size, rfl, Nat.le_refl _, HM2.out, HB.out⟩
def dirM (L : List (Nv × Nod)) (f : Lit → Option Nat) (m : List ByteArray) : Bool :=
 match f (pkey m) with
 | some j => decide ((gl L j).2.kind = 1)
 | none => false
set_option maxRecDepth 100000 in
theorem isDir_any (a : Option Addr) (n c : Nat) (L : List (Nv × Nod)) (b sz : Nat) (f : Lit → Option Nat) (na : Option Addr) (nn nc : Nat) (m : List ByteArray) (w : World) (hl : Ns w a n L) (hc : n ≤ c) (hcm : c ≤ 9223372036854775807)
  (hm : MpK 9 w b sz f) (hf : ∀ k j, f k = some j → j < n) (hr : Rs w na nn m) (hs : Short m) :
  Calls Tryz.prog 55 #[.slice a n c, .map (some b), .slice na nn nc] w fun e w' => e = .returned (.bool (dirM L f m)) ∧ Below w.heap.size w w' := by
 have HL := hide hl
 have HM := hide hm
 have HR := hide hr
 have HS := hide hs
 have hnn : nn ≤ 1000000 := by have := hr.1; have := hs.1; omega
 clear hr hs hm
 go_enter Tryz.func55, Tryz.ntmps55
 go_wp2_with (go_at_call 81; refine (Join_any _ _ _ m _ HR.out hnn HS.out.jn).mono ?_)
 rintro e w1 ⟨rfl, hb1⟩
 have HB := hide hb1
 have hk := (HM.out.below hb1).look keyedStr mapUnder (joinKey m HS.out) trivial
 cases hfm : f (pkey m) with
 | none =>
  have HD : Hid (dirM L f m = false) := by show _ = _; rw [dirM, hfm]
  rw [hfm] at hk
  simp only [Option.getD_none, Option.isSome_none] at hk
  clear hl hb1 hfm
  go_wp2
  go_ret
  exact ⟨ret_bool (by rw [HD.out]), HB.out⟩
 | some j =>
  have hj := hf _ _ hfm
  obtain ⟨ba, oa, rfl, hba, hca⟩ := (HL.out.below hb1).at (by omega)
  obtain ⟨c0, c1, c2, c3, c4, c5, c6, c7, c8, c9⟩ := hca j hj
  have HD : Hid (((gl L j).1.kind == 1) = dirM L f m) := by
   show _ = _
   rw [dirM, hfm, ← (hl.rep j hj).kind]
   rw [Bool.eq_iff_iff, beq_iff_eq, decide_eq_true_eq]
  rw [hfm] at hk
  simp only [Option.getD_some, Option.isSome_some] at hk
  have hj' : (j : Int) < n := by omega
  clear hl hb1 hfm hca
  go_wp2
  go_ret
  exact ⟨ret_bool HD.out, HB.out⟩
theorem dropLast_take (m : List ByteArray) : m.take (m.length - 1) = m.dropLast := List.dropLast_eq_take.symm
theorem Short.take {m : List ByteArray} (h : Short m) (k : Nat) : Short (m.take k) := ⟨by have := h.1; simp; omega, fun s hs => h.2 s (List.mem_of_mem_take hs)⟩
set_option maxRecDepth 100000 in
theorem parent_any (v : Nv) (x : Nod) (a : Option Addr) (n c : Nat) (L : List (Nv × Nod)) (b sz pl pm : Nat) (f : Lit → Option Nat) (w : World) (hx : Rep w v x) (hl : Ns w a n L) (hc : n ≤ c) (hcm : c ≤ 9223372036854775807)
  (hm : MpK 9 w b sz f) (hf : ∀ k j, f k = some j → j < n) (hs : Short x.names) (hpl : w.cell? ⟨pl, 0, none⟩ = some (.slice a n c)) (hpm : w.cell? ⟨pm, 0, none⟩ = some (.map (some b))) (lpl : pl < w.heap.size) (lpm : pm < w.heap.size) :
  Calls Tryz.prog 82 #[.agg v.cells, .pointer (some ⟨pl, 0, none⟩), .pointer (some ⟨pm, 0, none⟩)] w fun e w' => e = .returned (.bool (decide (x.names.length = 0) || dirM L f x.names.dropLast)) ∧ Below w.heap.size w w' := by
 have hnn := hx.names.1
 obtain ⟨na, nn, nc, hcells, hr, n1, n2, hnn⟩ : ∃ na nn nc, v.cells = #[.slice na nn nc, .int .i64 v.ino, .int .i64 v.kind, .int .i64 v.mode, .int .i64 v.uid, .int .i64 v.gid, .slice v.da v.dn v.dc, .string v.tg, .slice v.xa v.xn v.xc, .bool v.op] ∧ Rs w na nn x.names ∧ nn ≤ nc ∧ nc ≤ 9223372036854775807 ∧ x.names.length = nn :=
  ⟨_, _, _, rfl, hx.names, hx.nc, hx.ncm, hx.names.1⟩
 rw [hcells]
 have h16 : nn ≤ 16 := by rw [← hnn]; exact hs.1
 have HNN := hide hnn
 have bel : Hid (∀ o, Below w.heap.size w (w.alloc o)) := fun o => (Below.refl _ _).alloc (Nat.le_refl _) _
 by_cases h0 : nn = 0
 ·subst h0
  have HD : Hid ((decide (x.names.length = 0) || dirM L f x.names.dropLast) = true) := by show _ = _; rw [hnn]; rfl
  clear hx hl hm hs hr hnn hcells
  go_enter Tryz.func82, Tryz.ntmps82
  go_wp2
  go_quiet (fail)
  go_wp2
  go_ret
  exact ⟨ret_bool HD.out.symm, (bel.out _).trans (drewN_below _ _)⟩
 ·have HD : Hid ((decide (x.names.length = 0) || dirM L f x.names.dropLast) = dirM L f (x.names.take (nn - 1))) := by
   show _ = _
   rw [hnn, decide_eq_false h0, Bool.false_or, ← hnn, dropLast_take]
  have HK : Hid (∀ w1, Below w.heap.size w w1 → Calls Tryz.prog 55 #[.slice a n c, .map (some b), .slice na (nn - 1) nc] w1 fun e w' => e = .returned (.bool (dirM L f (x.names.take (nn - 1)))) ∧ Below w1.heap.size w1 w') := fun w1 hb =>
   isDir_any a n c L b sz f na (nn - 1) nc (x.names.take (nn - 1)) w1 (hl.below hb) hc hcm (hm.below hb) hf ((hr.below hb).take _ (by omega)) (Short.take hs _)
  obtain ⟨z, hz⟩ : ∃ z, dirM L f (x.names.take (nn - 1)) = z := ⟨_, rfl⟩
  rw [hz] at HK HD
  obtain ⟨k, rfl⟩ : ∃ k, nn = k + 1 := ⟨nn - 1, by omega⟩
  rw [Nat.add_sub_cancel] at HK
  have hk1 : decide ((k : Int) < 0) = false := by simp
  have k2 : (k : Int) ≤ 15 := by omega
  have q1 : (w.alloc (.cells #[.slice na (k + 1) nc, .int .i64 v.ino, .int .i64 v.kind, .int .i64 v.mode, .int .i64 v.uid, .int .i64 v.gid, .slice v.da v.dn v.dc, .string v.tg, .slice v.xa v.xn v.xc, .bool v.op] 44)).cell? ⟨pl, 0, none⟩ = some (.slice a n c) := ((bel.out _).cell (p := ⟨pl, 0, none⟩) lpl).trans hpl
  have q2 : (w.alloc (.cells #[.slice na (k + 1) nc, .int .i64 v.ino, .int .i64 v.kind, .int .i64 v.mode, .int .i64 v.uid, .int .i64 v.gid, .slice v.da v.dn v.dc, .string v.tg, .slice v.xa v.xn v.xc, .bool v.op] 44)).cell? ⟨pm, 0, none⟩ = some (.map (some b)) := ((bel.out _).cell (p := ⟨pm, 0, none⟩) lpm).trans hpm
  clear hx hl hm hs hr hnn hcells hz h0
  go_enter Tryz.func82, Tryz.ntmps82
  go_wp2
  have q3 : (w.alloc (.cells #[.slice na (k + 1) nc, .int .i64 v.ino, .int .i64 v.kind, .int .i64 v.mode, .int .i64 v.uid, .int .i64 v.gid, .slice v.da v.dn v.dc, .string v.tg, .slice v.xa v.xn v.xc, .bool v.op] 44)).cell? ⟨w.heap.size, 0, none⟩ = some (.slice na (k + 1) nc) := by simp
  have q4 := bel.out (.cells #[.slice na (k + 1) nc, .int .i64 v.ino, .int .i64 v.kind, .int .i64 v.mode, .int .i64 v.uid, .int .i64 v.gid, .slice v.da v.dn v.dc, .string v.tg, .slice v.xa v.xn v.xc, .bool v.op] 44)
  have q5 : w.heap.size < (w.alloc (.cells #[.slice na (k + 1) nc, .int .i64 v.ino, .int .i64 v.kind, .int .i64 v.mode, .int .i64 v.uid, .int .i64 v.gid, .slice v.da v.dn v.dc, .string v.tg, .slice v.xa v.xn v.xc, .bool v.op] 44)).heap.size := by simp
  revert q1 q2 q3 q4 q5
  generalize (w.alloc (.cells #[.slice na (k + 1) nc, .int .i64 v.ino, .int .i64 v.kind, .int .i64 v.mode, .int .i64 v.uid, .int .i64 v.gid, .slice v.da v.dn v.dc, .string v.tg, .slice v.xa v.xn v.xc, .bool v.op] 44)) = W
  intro q1 q2 q3 q4 q5
  have HQ := hide q4
  have HK2 := hide (HK.out W.drew (HQ.out.trans (drewN_below W 1)))
  have hWs := q4.size
  have b0 : (0 : Int) ≤ (k : Int) := by omega
  have b1 : (k : Int) ≤ (nc : Int) := by omega
  have b2 : (k : Int) ≤ (k : Int) + 1 := by omega
  clear q4 HK hpl hpm
  go_region_held3 (fun wX => wX.cell? ⟨pl, 0, none⟩ = some (.slice a n c) ∧ wX.cell? ⟨pm, 0, none⟩ = some (.map (some b)) ∧ wX.cell? ⟨w.heap.size, 0, none⟩ = some (.slice na (k + 1) nc)) (go_keep)
   ((first
    | (go_at_call 55; refine HK2.out.mono ?_; rintro r w5 ⟨rfl, hb5⟩; have hb6 : Below W.heap.size W w5 := ⟨hb5.os, hb5.tape, hb5.output, hb5.size, hb5.block⟩; have HB5 := hide hb6; have d1 := (hb6.cell (p := ⟨pl, 0, none⟩) (by show pl < W.heap.size; omega)).trans q1; have d2 := (hb6.cell (p := ⟨pm, 0, none⟩) (by show pm < W.heap.size; omega)).trans q2; have d3 := (hb6.cell (p := ⟨w.heap.size, 0, none⟩) q5).trans q3; clear hb5 hb6)))
  go_wp2_with fail
  go_ret
  exact ⟨ret_bool HD.out.symm, HQ.out.trans (HB5.out.mono HQ.out.size)⟩
def parM (L : List (Nv × Nod)) (f : Lit → Option Nat) (x : Nod) : Bool := decide (x.names.length = 0) || dirM L f x.names.dropLast
set_option maxRecDepth 100000 in
theorem haveParents_any (a : Option Addr) (n c : Nat) (L : List (Nv × Nod)) (b sz : Nat) (f : Lit → Option Nat) (w : World) (hl : Ns w a n L) (hc : n ≤ c) (hcm : c ≤ 9223372036854775807)
  (hm : MpK 9 w b sz f) (hf : ∀ k j, f k = some j → j < n) (hsh : ∀ p ∈ L, Short p.2.names) :
  Calls Tryz.prog 56 #[.slice a n c, .map (some b)] w fun e w' => e = .returned (.bool ((nds L).all (parM L f))) ∧ Below w.heap.size w w' := by
 have hW : ∀ o p, Below w.heap.size w ((w.alloc o).alloc p) := fun o p => below_alloc2 w o p
 have HW := hide hW
 have HK : Hid (∀ W, Below w.heap.size w W → W.cell? ⟨w.heap.size, 0, none⟩ = some (.slice a n c) → W.cell? ⟨w.heap.size + 1, 0, none⟩ = some (.map (some b)) → w.heap.size + 1 < W.heap.size →
   Calls Tryz.prog 57 #[.slice a n c, .func (.func 82) #[] #[.pointer (some ⟨w.heap.size, 0, none⟩), .pointer (some ⟨w.heap.size + 1, 0, none⟩)]] W fun e w' => e = .returned (.bool ((nds L).all (parM L f))) ∧ Below W.heap.size W w') := by
  intro W hb h1 h2 h3
  refine all_any a n c L 82 _ (parM L f) W (hl.below hb) hc hcm (enters _ Tryz.func82 (by kernel_rfl) rfl) ?_
  intro q hq w1 hb1
  have hb2 : Below w.heap.size w w1 := hb.trans (hb1.mono hb.size)
  exact parent_any q.1 q.2 a n c L b sz w.heap.size (w.heap.size + 1) f w1 ((hl.2.1 q hq).below hb2) (hl.below hb2) hc hcm (hm.below hb2) hf (hsh q hq) ((hb1.cell (p := ⟨w.heap.size, 0, none⟩) (by show w.heap.size < W.heap.size; omega)).trans h1) ((hb1.cell (p := ⟨w.heap.size + 1, 0, none⟩) h3).trans h2) (by have := hb1.size; omega) (by have := hb1.size; omega)
 clear hl hm hf hsh hW
 go_enter Tryz.func56, Tryz.ntmps56
 go_wp2_with (go_at_call 57; refine (HK.out _ (HW.out _ _) (by simp) (by simp) (by simp)).mono ?_; rintro e w' ⟨rfl, hb⟩)
 go_ret
 exact ⟨rfl, (HW.out _ _).trans (hb.mono (by simp; omega))⟩
end Go.Proofs.YtbmeapehgajbkaaGreat

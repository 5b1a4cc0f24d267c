import Derived.Test.YtflohhefbbidcaaLNamVal
import Derived.Deep.Strs
import Derived.ProofKit
import Derived.Lib.OthersKept
set_option linter.unusedVariables false
namespace Go.Proofs.Ytflohhefbbidcaa
open Go.RowKit Go.Maps Go.ChangeShapes Go.WideShapes Go.ChangeAt
def gs (l : List ByteArray) (i : Nat) : ByteArray := l.getD i ⟨#[]⟩
theorem gs_lt (l : List ByteArray) (i : Nat) (h : i < l.length) : gs l i = l[i] := by simp [gs, h]
theorem gs_take (l : List ByteArray) (k i : Nat) (h : i < k) : gs (l.take k) i = gs l i := by simp [gs, h]
def nm (l : List ByteArray) : List (List UInt8) := l.map ByteArray.toList
theorem nm_length (l : List ByteArray) : (nm l).length = l.length := by simp [nm]
theorem nm_append (l m : List ByteArray) : nm (l ++ m) = nm l ++ nm m := by simp [nm]
theorem nm_drop (l : List ByteArray) (i : Nat) (h : i < l.length) : (nm l).drop i = (gs l i).toList :: (nm l).drop (i + 1) := by
 rw [List.drop_eq_getElem_cons (by rw [nm_length]; exact h), gs_lt l i h]
 simp [nm]
theorem nm_inj {l m : List ByteArray} (h : nm l = nm m) : l = m := List.map_inj_right (fun _ _ e => toList_inj e) |>.1 h
def Rs (w : World) (ao : Option Addr) (n : Nat) (l : List ByteArray) : Prop :=
 l.length = n ∧ (n = 0 ∨ ∃ b off, ao = some ⟨b, off, none⟩ ∧ b < w.heap.size ∧ ∀ i, i < l.length → w.cell? ⟨b, off + i, none⟩ = some (.string (gs l i)))
theorem Rs.below {w w' : World} {ao : Option Addr} {n : Nat} {l : List ByteArray} (h : Rs w ao n l) (hb : Below w.heap.size w w') : Rs w' ao n l := by
 refine ⟨h.1, ?_⟩
 rcases h.2 with h0 | ⟨b, off, h1, h2, h3⟩
 ·exact .inl h0
 ·exact .inr ⟨b, off, h1, Nat.lt_of_lt_of_le h2 hb.size, fun i hi => (hb.cell (by exact h2)).trans (h3 i hi)⟩
theorem Rs.drewN {w : World} {ao : Option Addr} {n : Nat} {l : List ByteArray} (h : Rs w ao n l) (k : Nat) : Rs (w.drewN k) ao n l := by
 refine ⟨h.1, ?_⟩
 rcases h.2 with h0 | ⟨b, off, h1, h2, h3⟩
 ·exact .inl h0
 ·exact .inr ⟨b, off, h1, h2, fun i hi => by rw [← h3 i hi]; simp⟩
theorem Rs.take {w : World} {ao : Option Addr} {n : Nat} {l : List ByteArray} (h : Rs w ao n l) (k : Nat) (hk : k ≤ n) : Rs w ao k (l.take k) := by
 obtain ⟨hz, h0⟩ := h
 refine ⟨by simp; omega, ?_⟩
 rcases h0 with h0 | ⟨b, off, h1, h2, h3⟩
 ·exact .inl (by omega)
 ·refine .inr ⟨b, off, h1, h2, fun i hi => ?_⟩
  simp at hi
  rw [gs_take _ _ _ (by omega)]
  exact h3 i (by omega)
theorem Rs.nil (w : World) (ao : Option Addr) : Rs w ao 0 [] := ⟨rfl, .inl rfl⟩
theorem Rs.at {w : World} {ao : Option Addr} {n : Nat} {l : List ByteArray} (h : Rs w ao n l) (hn : 0 < n) : ∃ b off, ao = some ⟨b, off, none⟩ ∧ b < w.heap.size ∧ ∀ i, i < n → w.cell? ⟨b, off + i, none⟩ = some (.string (gs l i)) := by
 rcases h.2 with h0 | ⟨b, off, h1, h2, h3⟩
 ·omega
 ·exact ⟨b, off, h1, h2, fun i hi => h3 i (by rw [h.1]; exact hi)⟩
def sv (l : List ByteArray) : List Value := l.map Value.string
theorem sv_length (l : List ByteArray) : (sv l).length = l.length := by simp [sv]
theorem rs_of_owns {w : World} {B n c : Nat} {ao : Option Addr} {l : List ByteArray} (h : w.ownsRow B 9 1 (.slice ao n c) n (sv l)) : Rs w ao n l := by
 have hlen : l.length = n := by have := h.1; rw [sv_length] at this; omega
 refine ⟨hlen, ?_⟩
 by_cases e : n = 0
 ·exact .inl e
 ·obtain ⟨gb, c', hv, _, hlt⟩ := h.form (by omega)
  obtain ⟨rfl, _, rfl⟩ : ao = some ⟨gb, 0, none⟩ ∧ n = n ∧ c = c' := by simpa using hv
  refine .inr ⟨gb, 0, rfl, hlt, fun i hi => ?_⟩
  rw [Nat.zero_add, h.cellAt i (by omega)]
  unfold sv
  rw [List.getElem?_map, List.getElem?_eq_getElem hi, gs_lt _ _ hi]; rfl
theorem infoStr : (Try.prog.info? 9).map (fun i => (i.zero, i.size, i.bytes)) = some (some (.string ⟨#[]⟩), 1, 16) := by kernel_rfl
theorem sv_one (l : List ByteArray) : ∀ u ∈ sv l, u.oneCell' = true := by
 intro u hu
 simp only [sv, List.mem_map] at hu
 obtain ⟨s, _, rfl⟩ := hu
 rfl
end Go.Proofs.Ytflohhefbbidcaa
namespace Go.Proofs.Ytflohhefbbidcaa
open Nam
structure Nod where
 names : List ByteArray
 ino : Int
 kind : Int
 mode : Int
 uid : Int
 gid : Int
 data : List Int
 target : ByteArray
 xs : List (ByteArray × List Int)
 opq : Bool
namespace Tre
def alike (a b : Nod) : Bool := decide (a.kind = b.kind ∧ (a.mode = b.mode ∧ a.uid = b.uid ∧ a.gid = b.gid) ∧ a.target = b.target ∧ a.opq = b.opq ∧ a.data = b.data ∧ a.xs = b.xs)
theorem alike_iff (a b : Nod) : alike a b = true ↔ (a.kind = b.kind ∧ (a.mode = b.mode ∧ a.uid = b.uid ∧ a.gid = b.gid) ∧ a.target = b.target ∧ a.opq = b.opq ∧ a.data = b.data ∧ a.xs = b.xs) := by
 unfold alike; exact decide_eq_true_iff
theorem alike_symm {a b : Nod} (h : alike a b = true) : alike b a = true := by
 obtain ⟨h1, ⟨h2, h3, h4⟩, h5, h6, h7, h8⟩ := (alike_iff a b).1 h
 exact (alike_iff b a).2 ⟨h1.symm, ⟨h2.symm, h3.symm, h4.symm⟩, h5.symm, h6.symm, h7.symm, h8.symm⟩
theorem alike_comm (a b : Nod) : alike a b = alike b a := by
 rw [Bool.eq_iff_iff]; exact ⟨alike_symm, alike_symm⟩
def txt (s : List UInt8) (m : Nat) : Bool := decide (s ≠ []) && decide (s.length ≤ m) && !s.any (· == 0)
def xs1 : List UInt8 → List (ByteArray × List Int) → Bool
 | _, [] => true
 | a, x :: r => Op.bytesLess a x.1.toList && txt x.1.toList 40 && decide (x.2.length ≤ 200) && xs1 x.1.toList r
def xsOk (xs : List (ByteArray × List Int)) : Bool := decide (xs.length ≤ 8) && xs1 [] xs
def kdOk (n : Nod) : Bool :=
 if n.kind = 1 then decide (n.data.length = 0) && n.target.toList.isEmpty
 else if n.kind = 2 then decide (n.data.length ≤ 4096) && n.target.toList.isEmpty
 else if n.kind = 3 then decide (n.data.length = 0) && txt n.target.toList 200
 else false
def attrOk (n : Nod) : Bool := decide ((0 ≤ n.mode ∧ n.mode ≤ 511) ∧ (0 ≤ n.uid ∧ n.uid ≤ 65535) ∧ 0 ≤ n.gid ∧ n.gid ≤ 65535)
def may (n : Nod) : Bool := kdOk n && attrOk n && xsOk n.xs && !n.opq
def fv : List ByteArray → Int
 | [] => 0
 | s :: r => if valid s.toList = 0 then fv r else valid s.toList
def wrong : List Nod → Int
 | [] => 0
 | n :: r => if fv n.names = 0 then wrong r else fv n.names
theorem fv_zero : ∀ (l : List ByteArray), fv l = 0 → ∀ s ∈ l, valid s.toList = 0
 | [], _, s, hs => by simp at hs
 | a :: r, h, s, hs => by
  unfold fv at h
  by_cases e : valid a.toList = 0
  ·rw [if_pos e] at h
   rcases List.mem_cons.1 hs with rfl | hs
   ·exact e
   ·exact fv_zero r h s hs
  ·rw [if_neg e] at h; exact absurd h e
theorem wrong_zero : ∀ (l : List Nod), wrong l = 0 → ∀ n ∈ l, fv n.names = 0
 | [], _, n, hn => by simp at hn
 | a :: r, h, n, hn => by
  unfold wrong at h
  by_cases e : fv a.names = 0
  ·rw [if_pos e] at h
   rcases List.mem_cons.1 hn with rfl | hn
   ·exact e
   ·exact wrong_zero r h n hn
  ·rw [if_neg e] at h; exact absurd h e
def deep (n : Nod) : Bool := decide (16 < n.names.length)
def isDir (l : List Nod) (m : List ByteArray) : Bool :=
 match l.find? (fun n => decide (n.names = m)) with
 | some n => decide (n.kind = 1)
 | none => false
def inDir (l : List Nod) (n : Nod) : Bool := decide (n.names.length = 0) || isDir l n.names.dropLast
end Tre
end Go.Proofs.Ytflohhefbbidcaa
namespace Go.Proofs.Ytflohhefbbidcaa
open Go.RowKit Go.Maps
open Nam
theorem isNaN_any (s : ByteArray) (w : World) : Calls Try.prog 74 #[.string s] w fun e w' => e = .returned (.bool false) ∧ w' = w := by
 go_enter Try.func74, Try.ntmps74
 go_wp2
 go_ret
 exact ⟨rfl, rfl⟩
theorem cmp_any (s t : ByteArray) (w : World) : Calls Try.prog 69 #[.string s, .string t] w fun e w' => e = .returned (.int .i64 (cmp1 s.toList t.toList)) ∧ w' = w := by
 go_enter Try.func69, Try.ntmps69
 go_wp2_with (go_at_call 74; refine (isNaN_any _ _).mono ?_; rintro e w' ⟨rfl, rfl⟩)
 ·have h : Op.bytesLess s.toList t.toList = true := by assumption
  go_ret
  exact ⟨ret_int (by rw [cmp1, if_pos h]), rfl⟩
 ·have h : Op.bytesLess s.toList t.toList = false := by assumption
  have k : (!s.toList == t.toList) = true := by assumption
  go_ret
  refine ⟨ret_int ?_, rfl⟩
  rw [cmp1, if_neg (by rw [h]; simp), if_neg]
  simpa using k
 ·have h : Op.bytesLess s.toList t.toList = false := by assumption
  have k : (!s.toList == t.toList) = false := by assumption
  go_ret
  refine ⟨ret_int ?_, rfl⟩
  rw [cmp1, if_neg (by rw [h]; simp), if_pos]
  simpa using k
end Go.Proofs.Ytflohhefbbidcaa
namespace Go.Proofs.Ytflohhefbbidcaa
open Go.RowKit Go.Maps Go.ChangeShapes Go.WideShapes Go.ChangeAt
open Nam Tre
open Lz (g)
structure Nv where
 na : Option Addr
 nn : Nat
 nc : Nat
 ino : Int
 kind : Int
 mode : Int
 uid : Int
 gid : Int
 da : Option Addr
 dn : Nat
 dc : Nat
 tg : ByteArray
 xa : Option Addr
 xn : Nat
 xc : Nat
 op : Bool
def nv0 : Nv := ⟨none, 0, 0, 0, 0, 0, 0, 0, none, 0, 0, ⟨#[]⟩, none, 0, 0, false⟩
def nod0 : Nod := ⟨[], 0, 0, 0, 0, 0, [], ⟨#[]⟩, [], false⟩
def Nv.cells (v : Nv) : Array Value := #[.slice v.na v.nn v.nc, .int .i64 v.ino, .int .i64 v.kind, .int .i64 v.mode, .int .i64 v.uid, .int .i64 v.gid, .slice v.da v.dn v.dc, .string v.tg, .slice v.xa v.xn v.xc, .bool v.op]
def XatAt (w : World) (b o : Nat) (x : ByteArray × List Int) : Prop :=
 w.cell? ⟨b, o, none⟩ = some (.string x.1) ∧ ∃ va vn vc, w.cell? ⟨b, o + 1, none⟩ = some (.slice va vn vc) ∧ Bs w va vn x.2 ∧ vn ≤ vc ∧ vc ≤ 9223372036854775807 ∧ (va = none → vc = 0) ∧ x.1.size ≤ 9223372036854775807
def gx (xs : List (ByteArray × List Int)) (i : Nat) : ByteArray × List Int := xs.getD i (⟨#[]⟩, [])
theorem gx_lt (xs : List (ByteArray × List Int)) (i : Nat) (h : i < xs.length) : gx xs i = xs[i] := by simp [gx, h]
def XsR (w : World) (ao : Option Addr) (n : Nat) (xs : List (ByteArray × List Int)) : Prop :=
 xs.length = n ∧ (n = 0 ∨ ∃ b off, ao = some ⟨b, off, none⟩ ∧ b < w.heap.size ∧ ∀ i, i < n → XatAt w b (off + i * 2) (gx xs i))
structure Rep (w : World) (v : Nv) (n : Nod) : Prop where
 names : Rs w v.na v.nn n.names
 nc : v.nn ≤ v.nc
 ncm : v.nc ≤ 9223372036854775807
 nnil : v.na = none → v.nc = 0
 ino : n.ino = v.ino
 in64 : (Lit.int .i64 v.ino).wf = true
 kind : n.kind = v.kind
 mode : n.mode = v.mode
 uid : n.uid = v.uid
 gid : n.gid = v.gid
 data : Bs w v.da v.dn n.data
 dc : v.dn ≤ v.dc
 dcm : v.dc ≤ 9223372036854775807
 dnil : v.da = none → v.dc = 0
 tg : n.target = v.tg
 tgm : v.tg.size ≤ 9223372036854775807
 xs : XsR w v.xa v.xn n.xs
 xc : v.xn ≤ v.xc
 xcm : v.xc ≤ 9223372036854775807
 xnil : v.xa = none → v.xc = 0
 op : n.opq = v.op
theorem XatAt.below {w w' : World} {b o : Nat} {x : ByteArray × List Int} (h : XatAt w b o x) (hb : Below w.heap.size w w') (hlt : b < w.heap.size) : XatAt w' b o x := by
 obtain ⟨h1, va, vn, vc, h2, h3, h4⟩ := h
 exact ⟨(hb.cell (by exact hlt)).trans h1, va, vn, vc, (hb.cell (by exact hlt)).trans h2, h3.below hb, h4⟩
theorem XsR.below {w w' : World} {ao : Option Addr} {n : Nat} {xs : List (ByteArray × List Int)} (h : XsR w ao n xs) (hb : Below w.heap.size w w') : XsR w' ao n xs := by
 refine ⟨h.1, ?_⟩
 rcases h.2 with h0 | ⟨b, off, h1, h2, h3⟩
 ·exact .inl h0
 ·exact .inr ⟨b, off, h1, Nat.lt_of_lt_of_le h2 hb.size, fun i hi => (h3 i hi).below hb h2⟩
theorem XsR.at {w : World} {ao : Option Addr} {n : Nat} {xs : List (ByteArray × List Int)} (h : XsR w ao n xs) (hn : 0 < n) : ∃ b off, ao = some ⟨b, off, none⟩ ∧ b < w.heap.size ∧ ∀ i, i < n → XatAt w b (off + i * 2) (gx xs i) := by
 rcases h.2 with h0 | h1
 ·omega
 ·exact h1
theorem XsR.nil (w : World) (ao : Option Addr) : XsR w ao 0 [] := ⟨rfl, .inl rfl⟩
theorem Rep.below {w w' : World} {v : Nv} {n : Nod} (h : Rep w v n) (hb : Below w.heap.size w w') : Rep w' v n :=
 { h with names := h.names.below hb, data := h.data.below hb, xs := h.xs.below hb }
structure NodAt (w : World) (b o : Nat) (v : Nv) : Prop where
 c0 : w.cell? ⟨b, o, none⟩ = some (.slice v.na v.nn v.nc)
 c1 : w.cell? ⟨b, o + 1, none⟩ = some (.int .i64 v.ino)
 c2 : w.cell? ⟨b, o + 2, none⟩ = some (.int .i64 v.kind)
 c3 : w.cell? ⟨b, o + 3, none⟩ = some (.int .i64 v.mode)
 c4 : w.cell? ⟨b, o + 4, none⟩ = some (.int .i64 v.uid)
 c5 : w.cell? ⟨b, o + 5, none⟩ = some (.int .i64 v.gid)
 c6 : w.cell? ⟨b, o + 6, none⟩ = some (.slice v.da v.dn v.dc)
 c7 : w.cell? ⟨b, o + 7, none⟩ = some (.string v.tg)
 c8 : w.cell? ⟨b, o + 8, none⟩ = some (.slice v.xa v.xn v.xc)
 c9 : w.cell? ⟨b, o + 9, none⟩ = some (.bool v.op)
theorem NodAt.same {w w' : World} {b o : Nat} {v : Nv} (h : NodAt w b o v) (hc : ∀ k, w'.cell? ⟨b, k, none⟩ = w.cell? ⟨b, k, none⟩) : NodAt w' b o v :=
 ⟨(hc _).trans h.c0, (hc _).trans h.c1, (hc _).trans h.c2, (hc _).trans h.c3, (hc _).trans h.c4, (hc _).trans h.c5, (hc _).trans h.c6, (hc _).trans h.c7, (hc _).trans h.c8, (hc _).trans h.c9⟩
theorem NodAt.below {w w' : World} {B b o : Nat} {v : Nv} (h : NodAt w b o v) (hb : Below B w w') (hlt : b < B) : NodAt w' b o v :=
 h.same (fun k => hb.cell (by exact hlt))
structure Boxed (w : World) (b : Nat) (v : Nv) : Prop where
 lt : b < w.heap.size
 c0 : w.cell? ⟨b, 0, none⟩ = some (.slice v.na v.nn v.nc)
 c1 : w.cell? ⟨b, 1, none⟩ = some (.int .i64 v.ino)
 c2 : w.cell? ⟨b, 2, none⟩ = some (.int .i64 v.kind)
 c3 : w.cell? ⟨b, 3, none⟩ = some (.int .i64 v.mode)
 c4 : w.cell? ⟨b, 4, none⟩ = some (.int .i64 v.uid)
 c5 : w.cell? ⟨b, 5, none⟩ = some (.int .i64 v.gid)
 c6 : w.cell? ⟨b, 6, none⟩ = some (.slice v.da v.dn v.dc)
 c7 : w.cell? ⟨b, 7, none⟩ = some (.string v.tg)
 c8 : w.cell? ⟨b, 8, none⟩ = some (.slice v.xa v.xn v.xc)
 c9 : w.cell? ⟨b, 9, none⟩ = some (.bool v.op)
theorem boxed (w : World) (v : Nv) : Boxed (w.alloc (.cells v.cells 44)) w.heap.size v := by
 constructor <;> simp [Nv.cells]
def gl (L : List (Nv × Nod)) (i : Nat) : Nv × Nod := L.getD i (nv0, nod0)
theorem gl_lt (L : List (Nv × Nod)) (i : Nat) (h : i < L.length) : gl L i = L[i] := by simp [gl, h]
theorem gl_mem (L : List (Nv × Nod)) (i : Nat) (h : i < L.length) : gl L i ∈ L := by rw [gl_lt L i h]; exact List.getElem_mem h
def nds (L : List (Nv × Nod)) : List Nod := L.map (·.2)
theorem nds_length (L : List (Nv × Nod)) : (nds L).length = L.length := by simp [nds]
theorem nds_drop (L : List (Nv × Nod)) (i : Nat) (h : i < L.length) : (nds L).drop i = (gl L i).2 :: (nds L).drop (i + 1) := by
 rw [List.drop_eq_getElem_cons (by rw [nds_length]; exact h), gl_lt L i h]
 simp [nds]
theorem nds_take (L : List (Nv × Nod)) (i : Nat) (h : i < L.length) : (nds L).take (i + 1) = (nds L).take i ++ [(gl L i).2] := by
 rw [List.take_succ_eq_append_getElem (by rw [nds_length]; exact h), gl_lt L i h]
 simp [nds]
def Ns (w : World) (ao : Option Addr) (n : Nat) (L : List (Nv × Nod)) : Prop :=
 L.length = n ∧ (∀ p ∈ L, Rep w p.1 p.2) ∧ (n = 0 ∨ ∃ b off, ao = some ⟨b, off, none⟩ ∧ b < w.heap.size ∧ ∀ i, i < n → NodAt w b (off + i * 10) (gl L i).1)
theorem Ns.below {w w' : World} {ao : Option Addr} {n : Nat} {L : List (Nv × Nod)} (h : Ns w ao n L) (hb : Below w.heap.size w w') : Ns w' ao n L := by
 refine ⟨h.1, fun p hp => (h.2.1 p hp).below hb, ?_⟩
 rcases h.2.2 with h0 | ⟨b, off, h1, h2, h3⟩
 ·exact .inl h0
 ·exact .inr ⟨b, off, h1, Nat.lt_of_lt_of_le h2 hb.size, fun i hi => (h3 i hi).below hb h2⟩
theorem Ns.at {w : World} {ao : Option Addr} {n : Nat} {L : List (Nv × Nod)} (h : Ns w ao n L) (hn : 0 < n) : ∃ b off, ao = some ⟨b, off, none⟩ ∧ b < w.heap.size ∧ ∀ i, i < n → NodAt w b (off + i * 10) (gl L i).1 := by
 rcases h.2.2 with h0 | h1
 ·omega
 ·exact h1
theorem Ns.rep {w : World} {ao : Option Addr} {n : Nat} {L : List (Nv × Nod)} (h : Ns w ao n L) (i : Nat) (hi : i < n) : Rep w (gl L i).1 (gl L i).2 :=
 h.2.1 _ (gl_mem L i (by rw [h.1]; exact hi))
theorem Ns.nil (w : World) (ao : Option Addr) : Ns w ao 0 [] := ⟨rfl, fun p hp => by simp at hp, .inl rfl⟩
theorem drewN_below {B : Nat} (w : World) (k : Nat) : Below B w (w.drewN k) := ⟨rfl, rfl, rfl, Nat.le_refl _, fun _ _ => rfl⟩
end Go.Proofs.Ytflohhefbbidcaa
namespace Go.Proofs.Ytflohhefbbidcaa
open Go.RowKit Go.Maps
open Nam Tre
def nvs (V : List Nv) : List Value := V.flatMap (fun v => v.cells.toList)
theorem nvs_append (V U : List Nv) : nvs (V ++ U) = nvs V ++ nvs U := by simp [nvs]
theorem cells_length (v : Nv) : v.cells.toList.length = 10 := rfl
theorem nvs_length (V : List Nv) : (nvs V).length = V.length * 10 := by
 induction V with
 | nil => rfl
 | cons v r ih =>
  have : nvs (v :: r) = v.cells.toList ++ nvs r := by simp [nvs]
  rw [this, List.length_append, cells_length, ih, List.length_cons]; omega
theorem nvs_get (V : List Nv) (i c : Nat) (h : i < V.length) (hc : c < 10) : (nvs V)[i * 10 + c]? = (V[i].cells.toList)[c]? := by
 induction V generalizing i with
 | nil => simp at h
 | cons v r ih =>
  have e : nvs (v :: r) = v.cells.toList ++ nvs r := by simp [nvs]
  rw [e]
  cases i with
  | zero => rw [Nat.zero_mul, Nat.zero_add, List.getElem?_append_left (by rw [cells_length]; exact hc)]; rfl
  | succ i =>
   rw [List.getElem?_append_right (by rw [cells_length]; omega), cells_length, show (i + 1) * 10 + c - 10 = i * 10 + c by omega, ih i (by simpa using h)]
   rfl
def gv (V : List Nv) (i : Nat) : Nv := V.getD i nv0
theorem gv_lt (V : List Nv) (i : Nat) (h : i < V.length) : gv V i = V[i] := by simp [gv, h]
def Sh (w : World) (ao : Option Addr) (n : Nat) (V : List Nv) : Prop :=
 V.length = n ∧ (n = 0 ∨ ∃ b off, ao = some ⟨b, off, none⟩ ∧ b < w.heap.size ∧ ∀ i, i < n → NodAt w b (off + i * 10) (gv V i))
theorem gv_map (L : List (Nv × Nod)) (i : Nat) (h : i < L.length) : gv (L.map (·.1)) i = (gl L i).1 := by
 rw [gv_lt _ _ (by simpa using h), gl_lt L i h]; simp
theorem Sh.ns {w : World} {ao : Option Addr} {n : Nat} {L : List (Nv × Nod)} (h : Sh w ao n (L.map (·.1))) (hr : ∀ p ∈ L, Rep w p.1 p.2) : Ns w ao n L := by
 have hl : L.length = n := by have := h.1; rw [List.length_map] at this; exact this
 refine ⟨hl, hr, ?_⟩
 rcases h.2 with h0 | ⟨b, off, h1, h2, h3⟩
 ·exact .inl h0
 ·exact .inr ⟨b, off, h1, h2, fun i hi => by rw [← gv_map L i (by rw [hl]; exact hi)]; exact h3 i hi⟩
theorem NodAt.of {w : World} {b o : Nat} {v : Nv} (h : ∀ c, c < 10 → w.cell? ⟨b, o + c, none⟩ = (v.cells.toList)[c]?) : NodAt w b o v :=
 ⟨h 0 (by omega), h 1 (by omega), h 2 (by omega), h 3 (by omega), h 4 (by omega), h 5 (by omega), h 6 (by omega), h 7 (by omega), h 8 (by omega), h 9 (by omega)⟩
theorem NodAt.cell {w : World} {b o : Nat} {v : Nv} (h : NodAt w b o v) (c : Nat) (hc : c < 10) : w.cell? ⟨b, o + c, none⟩ = (v.cells.toList)[c]? := by
 match c, hc with
 | 0, _ => exact h.c0
 | 1, _ => exact h.c1
 | 2, _ => exact h.c2
 | 3, _ => exact h.c3
 | 4, _ => exact h.c4
 | 5, _ => exact h.c5
 | 6, _ => exact h.c6
 | 7, _ => exact h.c7
 | 8, _ => exact h.c8
 | 9, _ => exact h.c9
theorem sh_of_owns {w : World} {B n c : Nat} {ao : Option Addr} {V : List Nv} (h : w.ownsRow B 44 10 (.slice ao n c) n (nvs V)) : Sh w ao n V := by
 have hlen : V.length = n := by have := h.1; rw [nvs_length] at this; omega
 refine ⟨hlen, ?_⟩
 by_cases e : n = 0
 ·exact .inl e
 ·obtain ⟨gb, c', hv, _, hlt⟩ := h.form (by omega)
  obtain ⟨rfl, _, rfl⟩ : ao = some ⟨gb, 0, none⟩ ∧ n = n ∧ c = c' := by simpa using hv
  refine .inr ⟨gb, 0, rfl, hlt, fun i hi => NodAt.of fun k hk => ?_⟩
  rw [Nat.zero_add, h.cellAt _ (by omega), nvs_get V i k (by omega) hk, gv_lt V i (by omega)]
theorem cap_owns {w : World} {B n c size e : Nat} {ao : Option Addr} {xs : List Value} (h : w.ownsRow B e size (.slice ao n c) n xs) : n ≤ c ∧ c ≤ 9223372036854775807 ∧ (ao = none → c = 0) := by
 rcases h.2 with ⟨e, _⟩ | ⟨_, _, _, e, _, _, h1, h2, _⟩
 ·simp at e; obtain ⟨rfl, rfl, rfl⟩ := e; exact ⟨by omega, by omega, fun _ => rfl⟩
 ·simp at e; obtain ⟨rfl, rfl⟩ := e; unfold maxLen at h2; exact ⟨by omega, by omega, fun k => by simp at k⟩
theorem infoNode : (Try.prog.info? 44).map (fun i => (i.zero, i.size, i.bytes)) = some (some (.agg (Nv.cells nv0)), 10, 136) := by kernel_rfl
theorem emptyN {w : World} {B : Nat} (hB : B ≤ w.heap.size) : (w.alloc (.cells #[] 44)).ownsRow B 44 10 (.slice (some ⟨w.heap.size, 0, none⟩) 0 0) 0 (nvs []) :=
 ⟨rfl, .inr ⟨w.heap.size, 0, #[], rfl, hB, heap_alloc_new w _, Nat.le_refl _, by unfold maxLen; omega, rfl, rfl⟩⟩
theorem nilN (w : World) (B : Nat) : w.ownsRow B 44 10 (.slice none 0 0) 0 (nvs []) := ⟨rfl, .inl ⟨rfl, rfl⟩⟩
theorem nvs_one (V : List Nv) : ∀ u ∈ nvs V, u.oneCell' = true := by
 intro u hu
 simp only [nvs, List.mem_flatMap] at hu
 obtain ⟨v, _, hv⟩ := hu
 simp only [Nv.cells, List.mem_cons, List.not_mem_nil, or_false] at hv
 rcases hv with h | h | h | h | h | h | h | h | h | h <;> (rw [h]; rfl)
theorem wpList_append_nod (w : World) {ops : Array Oper} {rest : List Oper} {o : Oper} {a : Act} {Q : Exit → Act → World → Prop} (hgd : o.guard = none) (s x : Operand)
  (ho : o.op = .call { callee := .builtin .append, args := #[s, x], argTypes := #[25, 25] })
  (base : Nat) (vo : Option Addr) (n vc : Nat) (V : List Nv) (hs : a.eval s = .slice vo n vc) (hown : w.ownsRow base 44 10 (.slice vo n vc) n (nvs V))
  (ao : Option Addr) (m c : Nat) (U : List Nv) (hx : a.eval x = .slice ao m c) (hb : Sh w ao m U) (hnil : ao = none → c = 0)
  (hbd : n + m ≤ 1000000) (hbase : base ≤ w.heap.size)
  (h : ∀ ao' c' w', w'.ownsRow base 44 10 (.slice ao' (n + m) c') (n + m) (nvs (V ++ U)) → w.grownBy w' (Value.slice vo n vc).ownBlock → wpList Try.prog ops Q rest (a.put o.dst (.slice ao' (n + m) c')) w') :
  wpList Try.prog ops Q (o :: rest) a w := by
 obtain ⟨i0, hi, hz0, hz1, hz2⟩ := info_parts infoNode
 obtain ⟨hz, h0⟩ := hb
 cases ao with
 | none =>
  obtain rfl : c = 0 := hnil rfl
  obtain rfl : m = 0 := by
   rcases h0 with h0 | ⟨b, off, h1, _⟩
   ·exact h0
   ·simp at h1
  obtain rfl : U = [] := List.eq_nil_of_length_eq_zero hz
  refine wpList_append_own_none hgd s x _ ho base 44 i0 10 Try.underlying25 hi _ n (nvs V) hs hown hx ?_
  have := h vo vc w (by simpa using hown) (World.grownBy.refl _ _)
  simpa using this
 | some ad =>
  refine wpList_append_own w hgd s x _ ho base 44 i0 (.agg (Nv.cells nv0)) 10 136 Try.underlying25 hi hz0 hz1 hz2 rfl (by decide) _ n (nvs V) hs hown ad m c (nvs U) hx (by rw [nvs_length]; omega) ?_ (nvs_one _) (by unfold maxLen; omega) (by omega) hbase ?_
  ·rcases h0 with h0 | ⟨b, off, h1, _, hseg⟩
   ·have : U = [] := List.eq_nil_of_length_eq_zero (by omega)
    subst this
    intro j u hu; simp [nvs] at hu
   ·obtain rfl := Option.some.inj h1
    intro j u hu
    have hj : j < (nvs U).length := (List.getElem?_eq_some_iff.1 hu).1
    rw [nvs_length, hz] at hj
    have e : j = j / 10 * 10 + j % 10 := by omega
    have hq : j / 10 < m := by omega
    have hr : j % 10 < 10 := by omega
    rw [e, nvs_get U _ _ (by omega) hr] at hu
    rw [Addr.add_lit]
    have := (hseg (j / 10) hq).cell (j % 10) hr
    rw [gv_lt U _ (by omega)] at this
    rw [show off + j = off + j / 10 * 10 + j % 10 by omega, this]
    exact hu
  ·intro v' w' h2 h3 _
   obtain ⟨ao', c', rfl⟩ := owns_shape h2
   exact h ao' c' w' (by rw [nvs_append]; exact h2) h3
theorem sh_one (w : World) (v : Nv) : Sh (w.alloc (.cells v.cells 44)) (some ⟨w.heap.size, 0, none⟩) 1 [v] := by
 refine ⟨rfl, .inr ⟨w.heap.size, 0, rfl, by simp, fun i hi => ?_⟩⟩
 obtain rfl : i = 0 := by omega
 obtain ⟨_, b0, b1, b2, b3, b4, b5, b6, b7, b8, b9⟩ := boxed w v
 exact ⟨b0, b1, b2, b3, b4, b5, b6, b7, b8, b9⟩
def cells2 (v u : Nv) : Array Value := #[.slice v.na v.nn v.nc, .int .i64 v.ino, .int .i64 v.kind, .int .i64 v.mode, .int .i64 v.uid, .int .i64 v.gid, .slice v.da v.dn v.dc, .string v.tg, .slice v.xa v.xn v.xc, .bool v.op, .slice u.na u.nn u.nc, .int .i64 u.ino, .int .i64 u.kind, .int .i64 u.mode, .int .i64 u.uid, .int .i64 u.gid, .slice u.da u.dn u.dc, .string u.tg, .slice u.xa u.xn u.xc, .bool u.op]
theorem sh_one' {w : World} {v : Nv} {p : Nat} (hp : p = w.heap.size) : Sh (w.alloc (.cells v.cells 44)) (some ⟨p, 0, none⟩) 1 [v] := by
 subst hp; exact sh_one w v
end Go.Proofs.Ytflohhefbbidcaa
namespace Go.Proofs.Ytflohhefbbidcaa
open Go.RowKit Go.Maps
open Nam Tre
namespace Tre
end Tre
end Go.Proofs.Ytflohhefbbidcaa
namespace Go.Proofs.Ytflohhefbbidcaa
open Go.RowKit Go.Maps
open Nam
theorem cmp_nil_left (k : List (List UInt8)) : cmp [] k = if 0 < k.length then -1 else 0 := by cases k <;> simp [cmp]
theorem drop_all {l : List ByteArray} {i : Nat} (h : l.length ≤ i) : (nm l).drop i = [] := List.drop_eq_nil_of_le (by rw [nm_length]; exact h)
set_option maxRecDepth 100000 in
theorem Compare_any (a b : Option Addr) (n c m d : Nat) (l k : List ByteArray) (w : World) (hl : Rs w a n l) (hk : Rs w b m k) (hn : n ≤ 1000000) (hm : m ≤ 1000000) :
  Calls Try.prog 59 #[.slice a n c, .slice b m d] w fun e w' => e = .returned (.int .i64 (cmp (nm l) (nm k))) ∧ ∃ q, w' = w.drewN q := by
 have HL := hide hl
 have HK := hide hk
 have hln := hl.1
 have hkn := hk.1
 have HLN := hide hln
 have HKN := hide hkn
 clear hl hk hln hkn
 go_enter Try.func59, Try.ntmps59
 go_wp2
 go_loopw [5, 6, 7, 8, 11] (fun _ _ _ _ r wr => ∃ i : Nat, wr = w ∧ r = .int .i64 i ∧ i ≤ n ∧ cmp (nm l) (nm k) = cmp ((nm l).drop i) ((nm k).drop i)) (fun _ _ _ _ r _ => n - (intOf r).toNat)
 case atStart => exact ⟨0, rfl, rfl, Nat.zero_le _, rfl⟩
 case round =>
  obtain ⟨i, rfl, rfl, hi0, hinv⟩ := hrel
  have HI := hide hinv
  clear hinv
  by_cases hp : i < n
  ·have hd : decide ((i : Int) < n) = true := by simpa using hp
   obtain ⟨ba, oa, rfl, hba, hca⟩ := HL.out.at (by omega)
   have c1 := hca i hp
   have e1 := nm_drop l i (by rw [HLN.out]; exact hp)
   have E1 := hide e1
   clear hca e1
   by_cases hq : i < m
   ·have hd2 : decide ((m : Int) ≤ i) = false := by simp; omega
    obtain ⟨bb, ob, rfl, hbb, hcb⟩ := HK.out.at (by omega)
    have c2 := hcb i hq
    have e2 := nm_drop k i (by rw [HKN.out]; exact hq)
    have E2 := hide e2
    clear hcb e2
    go_wp2_with (go_at_call 69; refine (cmp_any _ _ _).mono ?_; rintro e w' ⟨rfl, rfl⟩)
    ·have e : (cmp1 (gs l i).toList (gs k i).toList != 0) = true := by assumption
     go_ret
     refine ⟨ret_int ?_, 0, rfl⟩
     rw [HI.out, E1.out, E2.out, cmp, if_neg (by simpa using e)]
    ·have e : (cmp1 (gs l i).toList (gs k i).toList != 0) = false := by assumption
     refine ⟨⟨i + 1, trivial, by go_num, by omega, ?_⟩, by simp [intOf]; omega⟩
     rw [HI.out, E1.out, E2.out, cmp, if_pos (by simpa using e)]
   ·have hd2 : decide ((m : Int) ≤ i) = true := by simp; omega
    go_wp2
    go_ret
    refine ⟨ret_int ?_, 0, rfl⟩
    rw [HI.out, E1.out, drop_all (l := k) (by rw [HKN.out]; omega)]; rfl
  ·have hd : decide ((i : Int) < n) = false := by simpa using hp
   have e := cmp_nil_left ((nm k).drop i)
   rw [← drop_all (l := l) (i := i) (by rw [HLN.out]; omega), List.length_drop, nm_length, HKN.out] at e
   have E := hide e
   clear e
   go_wp2
   ·have h : n < m := by assumption
    go_ret
    refine ⟨ret_int ?_, 0, rfl⟩
    rw [HI.out, E.out, if_pos (by omega)]
   ·have h : ¬ n < m := by assumption
    go_ret
    refine ⟨ret_int ?_, 0, rfl⟩
    rw [HI.out, E.out, if_neg (by omega)]
theorem eq_step {l k : List ByteArray} {i : Nat} (h : i < l.length) (h' : i < k.length) : (nm l).drop i = (nm k).drop i ↔ (gs l i).toList = (gs k i).toList ∧ (nm l).drop (i + 1) = (nm k).drop (i + 1) := by
 rw [nm_drop l i h, nm_drop k i h', List.cons.injEq]
set_option maxRecDepth 100000 in
theorem Equal_any (a b : Option Addr) (n c m d : Nat) (l k : List ByteArray) (w : World) (hl : Rs w a n l) (hk : Rs w b m k) (hn : n ≤ 1000000) (hm : m ≤ 1000000) :
  Calls Try.prog 72 #[.slice a n c, .slice b m d] w fun e w' => e = .returned (.bool (decide (nm l = nm k))) ∧ ∃ q, w' = w.drewN q := by
 have HL := hide hl
 have HK := hide hk
 have HLN := hide hl.1
 have HKN := hide hk.1
 clear hl hk
 by_cases hnm : n = m
 ·subst hnm
  go_enter Try.func72, Try.ntmps72
  go_wp2
  go_loopw [5, 13] (fun _ r wr => ∃ i q : Nat, wr = w.drewN q ∧ r = .int .i64 i ∧ i ≤ n ∧ (nm l = nm k ↔ (nm l).drop i = (nm k).drop i)) (fun _ r _ => n - (intOf r).toNat)
  case atStart => exact ⟨0, 0, rfl, rfl, Nat.zero_le _, Iff.rfl⟩
  case round =>
   obtain ⟨i, q, rfl, rfl, hi0, hinv⟩ := hrel
   have HI := hide hinv
   clear hinv
   by_cases hp : i < n
   ·have hd : decide ((i : Int) < n) = true := by simpa using hp
    obtain ⟨ba, oa, rfl, hba, hca⟩ := HL.out.at (by omega)
    obtain ⟨bb, ob, rfl, hbb, hcb⟩ := HK.out.at (by omega)
    have c1 := hca i hp
    have c2 := hcb i hp
    have ES := hide (eq_step (l := l) (k := k) (i := i) (by rw [HLN.out]; exact hp) (by rw [HKN.out]; exact hp))
    clear hca hcb
    go_wp2
    go_quiet (fail)
    go_wp2
    ·have e : (!(gs l i).toList == (gs k i).toList) = true := by assumption
     go_ret
     refine ⟨ret_bool ?_, dr2 _ _ _⟩
     symm
     rw [decide_eq_false_iff_not, HI.out, ES.out]
     intro h
     rw [h.1] at e
     simp at e
    ·have e : (!(gs l i).toList == (gs k i).toList) = false := by assumption
     refine ⟨⟨i + 1, _, rfl, by go_num, by omega, ?_⟩, by simp [intOf]; omega⟩
     rw [HI.out, ES.out]
     have : (gs l i).toList = (gs k i).toList := by simpa using e
     simp [this]
   ·have hd : decide ((i : Int) < n) = false := by simpa using hp
    go_wp2
    go_ret
    refine ⟨ret_bool ?_, q, rfl⟩
    symm
    rw [decide_eq_true_eq, HI.out, drop_all (l := l) (by rw [HLN.out]; omega), drop_all (l := k) (by rw [HKN.out]; omega)]
 ·have hnm' : ((n : Int) != m) = true := by simp; omega
  have hne : Hid (false = decide (nm l = nm k)) := by
   show _ = _
   symm
   rw [decide_eq_false_iff_not]
   intro h
   have := congrArg List.length h
   rw [nm_length, nm_length, HLN.out, HKN.out] at this
   exact hnm this
  go_enter Try.func72, Try.ntmps72
  go_wp2
  go_ret
  exact ⟨ret_bool hne.out, 0, rfl⟩
theorem Same_any (a b : Option Addr) (n c m d : Nat) (l k : List ByteArray) (w : World) (hl : Rs w a n l) (hk : Rs w b m k) (hn : n ≤ 1000000) (hm : m ≤ 1000000) :
  Calls Try.prog 64 #[.slice a n c, .slice b m d] w fun e w' => e = .returned (.bool (decide (nm l = nm k))) ∧ ∃ q, w' = w.drewN q := by
 have H := hide (Equal_any a b n c m d l k w hl hk hn hm)
 clear hl hk
 go_enter Try.func64, Try.ntmps64
 go_wp2_with (go_at_call 72; refine H.out.mono ?_; rintro e w' ⟨rfl, q, rfl⟩)
 go_ret
 exact ⟨rfl, _, rfl⟩
set_option maxRecDepth 100000 in
theorem refSame_any (a b : Option Addr) (n c m d : Nat) (l k : List ByteArray) (w : World) (hl : Rs w a n l) (hk : Rs w b m k) (hn : n ≤ 1000000) (hm : m ≤ 1000000) :
  Calls Try.prog 31 #[.slice a n c, .slice b m d] w fun e w' => e = .returned (.bool (decide (nm l = nm k))) ∧ ∃ q, w' = w.drewN q := by
 have HL := hide hl
 have HK := hide hk
 have HLN := hide hl.1
 have HKN := hide hk.1
 clear hl hk
 by_cases hnm : n = m
 ·subst hnm
  go_enter Try.func31, Try.ntmps31
  go_wp2
  go_loopw [5] (fun r wr => ∃ i q : Nat, wr = w.drewN q ∧ r = .int .i64 i ∧ i ≤ n ∧ (nm l = nm k ↔ (nm l).drop i = (nm k).drop i)) (fun r _ => n - (intOf r).toNat)
  case atStart => exact ⟨0, 0, rfl, rfl, Nat.zero_le _, Iff.rfl⟩
  case round =>
   obtain ⟨i, q, rfl, rfl, hi0, hinv⟩ := hrel
   have HI := hide hinv
   clear hinv
   by_cases hp : i < n
   ·have hd : decide ((i : Int) < n) = true := by simpa using hp
    obtain ⟨ba, oa, rfl, hba, hca⟩ := HL.out.at (by omega)
    obtain ⟨bb, ob, rfl, hbb, hcb⟩ := HK.out.at (by omega)
    have c1 := hca i hp
    have c2 := hcb i hp
    have ES := hide (eq_step (l := l) (k := k) (i := i) (by rw [HLN.out]; exact hp) (by rw [HKN.out]; exact hp))
    clear hca hcb
    go_wp2
    go_quiet (fail)
    go_wp2
    ·have e : (!(gs l i).toList == (gs k i).toList) = true := by assumption
     go_ret
     refine ⟨ret_bool ?_, dr2 _ _ _⟩
     symm
     rw [decide_eq_false_iff_not, HI.out, ES.out]
     intro h
     rw [h.1] at e
     simp at e
    ·have e : (!(gs l i).toList == (gs k i).toList) = false := by assumption
     refine ⟨⟨i + 1, _, rfl, by go_num, by omega, ?_⟩, by simp [intOf]; omega⟩
     rw [HI.out, ES.out]
     have : (gs l i).toList = (gs k i).toList := by simpa using e
     simp [this]
   ·have hd : decide ((i : Int) < n) = false := by simpa using hp
    go_wp2
    go_ret
    refine ⟨ret_bool ?_, q, rfl⟩
    symm
    rw [decide_eq_true_eq, HI.out, drop_all (l := l) (by rw [HLN.out]; omega), drop_all (l := k) (by rw [HKN.out]; omega)]
 ·have hnm' : ((n : Int) != m) = true := by simp; omega
  have hne : Hid (false = decide (nm l = nm k)) := by
   show _ = _
   symm
   rw [decide_eq_false_iff_not]
   intro h
   have := congrArg List.length h
   rw [nm_length, nm_length, HLN.out, HKN.out] at this
   exact hnm this
  go_enter Try.func31, Try.ntmps31
  go_wp2
  go_ret
  exact ⟨ret_bool hne.out, 0, rfl⟩
end Go.Proofs.Ytflohhefbbidcaa
namespace Go.Proofs.Ytflohhefbbidcaa
open Nam Tre
namespace Mrg
def mayB (n : Nod) : Bool :=
 if n.kind = 4 then decide ((n.mode = 0 ∧ n.uid = 0 ∧ n.gid = 0) ∧ n.data.length = 0 ∧ n.target.toList = [] ∧ n.xs.length = 0 ∧ n.opq = false)
 else if n.kind = 1 then may { n with opq := false }
 else may n
abbrev oneB (a b : Nod) : Prop := a.ino = b.ino → (b.kind ≠ 1 ∧ b.kind ≠ 4) ∧ alike a b = true
def checkB (l : List Nod) : Int :=
 if 1024 < l.length then 3
 else if wrong l ≠ 0 then wrong l
 else if l.any deep = true then 9
 else if ¬ (l.map Nod.names).Nodup then 6
 else if isDir l [] = false then 4
 else if l.all (inDir l) = false then 5
 else if l.all mayB = false then 7
 else if ¬ l.Pairwise oneB then 8
 else 0
end Mrg
end Go.Proofs.Ytflohhefbbidcaa
namespace Go.Proofs.Ytflohhefbbidcaa
open Nam Tre Mrg
namespace Brn
end Brn
end Go.Proofs.Ytflohhefbbidcaa

import Derived.Test.YtoohanojfoichaaGreatDoorOJBase
import Derived.Laws.CopyOwn
set_option linter.unusedVariables false
namespace Go.Proofs.YtoohanojfoichaaGreatDoor
open Go.RowKit Go.Maps
open Lz (g)
open Cur
namespace Cur
theorem le_by : ∀ (n : Nat) (x : Int), 0 ≤ x → x < 256 ^ n → le (by' n x) = x
 | 0, x, h0, h => by simp at h; simp [by', le]; omega
 | n + 1, x, h0, h => by
  have h2 : x / 256 < 256 ^ n := by
   rw [Int.pow_succ] at h
   exact Int.ediv_lt_of_lt_mul (by omega) h
  simp only [by', le]
  rw [le_by n (x / 256) (by omega) h2]; omega
end Cur
theorem WrP.new (w : World) (B : Nat) : WrP (w.alloc (.cells #[.slice none 0 0, .int .i64 0] 120)) w.heap.size B (.slice none 0 0) ([], 0) :=
 ⟨none, 0, 0, rfl, Hd.new _ _ _ _ _ _, World.ownsRow_nil _ _ _ _, Bytes.nil, .inl rfl⟩
theorem Fr.two_below {w w' : World} {p B : Nat} {v : Value} (h : Fr (Two p v) w w') (hB : B ≤ w.heap.size) (hp : B ≤ p) (hv : ∀ k, v.ownBlock = some k → B ≤ k) : Below B w w' :=
 h.below B hB (fun k hk => by rcases hk with hk | hk; (have : k = p := hk; omega); exact hv k hk)
theorem Fr.one_below {w w' : World} {p B : Nat} (h : Fr (One p) w w') (hB : B ≤ w.heap.size) (hp : B ≤ p) : Below B w w' :=
 h.below B hB (fun k hk => by have : k = p := hk; omega)
theorem WrP.base {w : World} {p B : Nat} {v : Value} {s : St} (h : WrP w p B v s) : ∀ k, v.ownBlock = some k → B ≤ k := by
 obtain ⟨ao, n, c, rfl, _, h3, _⟩ := h
 intro k hk
 exact (h3.lt k hk).1
theorem WrP.lt {w : World} {p B : Nat} {v : Value} {s : St} (h : WrP w p B v s) : p < w.heap.size := by
 obtain ⟨ao, n, c, rfl, h2, _⟩ := h; exact h2.lt
set_option maxRecDepth 100000 in
theorem DoneNew_any (p B : Nat) (v : Value) (s : St) (w : World) (h : WrP w p B v s) (hbd : s.1.length ≤ 100000000) :
  Calls Tryz.prog 66 #[.pointer (some ⟨p, 0, none⟩)] w fun r w' => ∃ ao c, r = .returned (.slice ao s.1.length c) ∧ New w w' ao s.1.length c s.1 := by
 obtain ⟨vo, vn, vc, rfl, hd, ho, hby, hcan⟩ := h
 have hlen : s.1.length = vn := by have := ho.1; rw [bv_length] at this; omega
 have h0 := hd.c0
 have HB : Hid (Bs w vo vn s.1) := bs_of_owns ho hby
 have HN : Hid (vo = none → vc = 0) := nil_cap ho
 have hc := cap_of_owns ho
 clear hd ho
 rw [hlen]
 go_enter Tryz.func66, Tryz.ntmps66
 go_wp2_with fail
 refine (CloneNew_any vn vc vo s.1 w HB.out hc HN.out (by omega)).mono ?_
 rintro r w2 ⟨ao', c', rfl, hN⟩
 have HX : Hid (New w w2 ao' vn c' s.1) := hN
 clear hN
 go_wp2
 go_ret
 exact ⟨_, _, rfl, HX.out⟩
theorem setRow_fr {S : Nat → Prop} {a b : World} (h : Fr S a b) (q : Nat) (cs : Array Value) (hp : q < a.heap.size → S q) : Fr S a (b.setRow q cs) :=
 ⟨h.os, h.tape, h.output, by simpa [World.setRow] using h.size, fun i hi hn => (setRow_other b q i cs (fun e => by subst e; exact hn (hp hi))).trans (h.block i hi hn)⟩
theorem wNum_ok (zs : List Int) (m : Int) (n : Nat) (x : Int) (hm : m = (n : Int)) (h1 : 1 ≤ n) (h4 : n ≤ 4) (h0 : 0 ≤ x) (h : x < 256 ^ n) : wNum x m (zs, 0) = (zs ++ by' n x, 0) := by
 subst hm
 unfold wNum
 rw [if_pos ⟨by omega, by omega, h0, by rw [Int.toNat_natCast]; exact h⟩, Int.toNat_natCast]
 rfl
theorem wTxt_ok (zs : List Int) (t : ByteArray) (h : t.size ≤ 255) : wTxt (sb t) (zs, 0) = (zs ++ ((t.size : Int) :: sb t), 0) := by
 unfold wTxt
 rw [if_neg (by rw [sb_length]; omega), sb_length, wNum_ok zs 1 1 t.size rfl (by omega) (by omega) (by omega) (by omega)]
 have e : by' 1 (t.size : Int) = [(t.size : Int)] := by simp [by']; omega
 rw [e]
 show (zs ++ [(t.size : Int)] ++ sb t, (0 : Int)) = _
 simp
end Go.Proofs.YtoohanojfoichaaGreatDoor
namespace Go.Proofs.YtoohanojfoichaaGreatDoor.Ino
open Cur
open Lz (g)
structure Rec where
 kind : Int
 mode : Int
 uid : Int
 gid : Int
 links : Int
 xattr : Int
 start : Int
 size : Int
 frag : Int
 off : Int
 target : ByteArray
def inn (n a b : Int) : Bool := decide (a ≤ n ∧ n ≤ b)
def emp (t : ByteArray) : Bool := t.toList.isEmpty
def nz (t : ByteArray) : Bool := decide (∀ x ∈ sb t, x ≠ 0)
def Rec.headOk (s : Rec) : Bool := inn s.mode 0 511 && inn s.uid 0 2047 && inn s.gid 0 2047 && inn s.links 1 1024 && inn s.xattr 0 4294967295
def Rec.dirOk (s : Rec) : Bool := (s.links == 1) && inn s.start 0 4294967295 && inn s.size 0 1048576 && (s.frag == 0) && (s.off == 0) && emp s.target
def Rec.fileOk (s : Rec) : Bool := inn s.start 0 4294967295 && inn s.size 0 4096 && inn s.frag 0 1024 && ((s.size.tmod 128 != 0) == (s.frag != 0)) && inn s.off 0 127 && ((s.off == 0) || (s.frag != 0)) && emp s.target
def Rec.linkOk (s : Rec) : Bool := inn s.target.size 1 200 && nz s.target && (s.start == 0) && (s.size == 0) && (s.frag == 0) && (s.off == 0)
def Rec.ownOk (s : Rec) : Bool := if s.kind = 1 then s.dirOk else if s.kind = 2 then s.fileOk else if s.kind = 3 then s.linkOk else false
def isKind (k : Int) : Bool := decide (k = 1 ∨ k = 2 ∨ k = 3)
def Rec.may (s : Rec) : Bool := s.headOk && s.ownOk
theorem may_kind {s : Rec} (h : isKind s.kind = false) : s.may = false := by
 unfold isKind at h
 simp only [decide_eq_false_iff_not, not_or] at h
 unfold Rec.may Rec.ownOk
 rw [if_neg h.1, if_neg h.2.1, if_neg h.2.2, Bool.and_false]
theorem kind_may {s : Rec} (h : s.may = true) : isKind s.kind = true := by
 cases hk : isKind s.kind with
 | true => rfl
 | false => rw [may_kind hk] at h; cases h
def headB (s : Rec) : List Int := by' 1 s.kind ++ (by' 2 s.mode ++ (by' 2 s.uid ++ (by' 2 s.gid ++ (by' 2 s.links ++ by' 4 s.xattr))))
def ownB (s : Rec) : List Int :=
 if s.kind = 1 then by' 4 s.start ++ by' 4 s.size
 else if s.kind = 2 then by' 4 s.start ++ (by' 2 s.size ++ (by' 2 s.frag ++ by' 1 s.off))
 else if s.kind = 3 then (s.target.size : Int) :: sb s.target
 else []
def putB (s : Rec) : List Int := headB s ++ ownB s
theorem headB_length (s : Rec) : (headB s).length = 13 := by simp [headB, by_length]
theorem may_facts {s : Rec} (h : s.may = true) : isKind s.kind = true ∧ (0 ≤ s.mode ∧ s.mode ≤ 511) ∧ (0 ≤ s.uid ∧ s.uid ≤ 2047) ∧ (0 ≤ s.gid ∧ s.gid ≤ 2047) ∧ (1 ≤ s.links ∧ s.links ≤ 1024) ∧ (0 ≤ s.xattr ∧ s.xattr ≤ 4294967295) ∧ s.ownOk = true := by
 have hk := kind_may h
 unfold Rec.may Rec.headOk inn at h
 simp only [Bool.and_eq_true, decide_eq_true_eq] at h
 obtain ⟨⟨⟨⟨⟨h1, h2⟩, h3⟩, h4⟩, h5⟩, h6⟩ := h
 exact ⟨hk, h1, h2, h3, h4, h5, h6⟩
theorem emp_iff {t : ByteArray} : emp t = true ↔ t = ⟨#[]⟩ := by
 unfold emp
 constructor
 ·intro h
  have h1 : t.toList = [] := by simpa using h
  have h2 : t.data.toList = [] := by rw [← ByteArray.toList_eq] at *; exact h1
  obtain ⟨d⟩ := t
  simp at h2
  rw [h2]
 ·rintro rfl; simp [ByteArray.toList_eq]
theorem dir_facts {s : Rec} (hk : s.kind = 1) (h : s.ownOk = true) : s.links = 1 ∧ (0 ≤ s.start ∧ s.start ≤ 4294967295) ∧ (0 ≤ s.size ∧ s.size ≤ 1048576) ∧ s.frag = 0 ∧ s.off = 0 ∧ s.target = ⟨#[]⟩ := by
 unfold Rec.ownOk at h
 rw [if_pos hk] at h
 unfold Rec.dirOk inn at h
 simp only [Bool.and_eq_true, decide_eq_true_eq, beq_iff_eq, emp_iff] at h
 obtain ⟨⟨⟨⟨⟨h1, h2⟩, h3⟩, h4⟩, h5⟩, h6⟩ := h
 exact ⟨h1, h2, h3, h4, h5, h6⟩
theorem file_facts {s : Rec} (hk : s.kind = 2) (h : s.ownOk = true) : (0 ≤ s.start ∧ s.start ≤ 4294967295) ∧ (0 ≤ s.size ∧ s.size ≤ 4096) ∧ (0 ≤ s.frag ∧ s.frag ≤ 1024) ∧ (0 ≤ s.off ∧ s.off ≤ 127) ∧ s.target = ⟨#[]⟩ := by
 unfold Rec.ownOk at h
 rw [if_neg (by omega), if_pos hk] at h
 unfold Rec.fileOk inn at h
 simp only [Bool.and_eq_true, decide_eq_true_eq, emp_iff] at h
 obtain ⟨⟨⟨⟨⟨⟨h1, h2⟩, h3⟩, h4⟩, h5⟩, h6⟩, h7⟩ := h
 exact ⟨h1, h2, h3, h5, h7⟩
theorem link_facts {s : Rec} (hk : s.kind = 3) (h : s.ownOk = true) : (1 ≤ s.target.size ∧ s.target.size ≤ 200) ∧ s.start = 0 ∧ s.size = 0 ∧ s.frag = 0 ∧ s.off = 0 := by
 unfold Rec.ownOk at h
 rw [if_neg (by omega), if_neg (by omega), if_pos hk] at h
 unfold Rec.linkOk inn at h
 simp only [Bool.and_eq_true, decide_eq_true_eq, beq_iff_eq] at h
 obtain ⟨⟨⟨⟨⟨h1, h2⟩, h3⟩, h4⟩, h5⟩, h6⟩ := h
 exact ⟨by omega, h3, h4, h5, h6⟩
def long (zs : List Int) : Nat := if g zs 0 = 1 then 21 else if g zs 0 = 2 then 22 else if g zs 0 = 3 then 14 + (g zs 13).toNat else 0
theorem ownB_length {s : Rec} (h : s.may = true) : (s.kind = 1 → (ownB s).length = 8) ∧ (s.kind = 2 → (ownB s).length = 9) ∧ (s.kind = 3 → (ownB s).length = 1 + s.target.size) := by
 refine ⟨fun hk => ?_, fun hk => ?_, fun hk => ?_⟩
 ·unfold ownB; rw [if_pos hk]; simp [by_length]
 ·unfold ownB; rw [if_neg (by omega), if_pos hk]; simp [by_length]
 ·unfold ownB; rw [if_neg (by omega), if_neg (by omega), if_pos hk]; simp [sb_length]; omega
theorem kinds {k : Int} (h : isKind k = true) : k = 1 ∨ k = 2 ∨ k = 3 := by unfold isKind at h; simpa using h
theorem putB_zero {s : Rec} (h : s.may = true) : g (putB s) 0 = s.kind := by
 have hk := kinds (kind_may h)
 unfold putB headB
 simp only [by', List.cons_append, List.nil_append]
 simp only [g, List.getD_cons_zero]
 omega
theorem putB_13 {s : Rec} (h : s.may = true) (hk : s.kind = 3) : g (putB s) 13 = s.target.size := by
 have e : ownB s = (s.target.size : Int) :: sb s.target := by unfold ownB; rw [if_neg (by omega), if_neg (by omega), if_pos hk]
 unfold putB
 rw [e]
 simp only [g, List.getD_eq_getElem?_getD]
 rw [List.getElem?_append_right (by rw [headB_length]; omega), headB_length]
 rfl
theorem putB_long {s : Rec} (h : s.may = true) : (putB s).length = long (putB s) := by
 have h0 := putB_zero h
 have hl := ownB_length h
 unfold long
 rw [h0]
 have e : (putB s).length = 13 + (ownB s).length := by simp [putB, headB_length]
 rw [e]
 rcases kinds (kind_may h) with hk | hk | hk
 ·rw [if_pos hk, hl.1 hk]
 ·rw [if_neg (by omega), if_pos hk, hl.2.1 hk]
 ·rw [if_neg (by omega), if_neg (by omega), if_pos hk, hl.2.2 hk, putB_13 h hk]; omega
theorem putB_least {s : Rec} (h : s.may = true) : 15 ≤ (putB s).length ∧ (putB s).length ≤ 214 := by
 have hl := ownB_length h
 have e : (putB s).length = 13 + (ownB s).length := by simp [putB, headB_length]
 rw [e]
 rcases kinds (kind_may h) with hk | hk | hk
 ·rw [hl.1 hk]; omega
 ·rw [hl.2.1 hk]; omega
 ·have := (link_facts hk (may_facts h).2.2.2.2.2.2).1
  rw [hl.2.2 hk]; omega
theorem long_take {zs ys : List Int} (h : zs.take 14 = ys.take 14) : long zs = long ys := by
 have e : ∀ i, i < 14 → g zs i = g ys i := fun i hi => by rw [← Lz.g_take zs 14 i hi, h, Lz.g_take ys 14 i hi]
 unfold long
 rw [e 0 (by omega), e 13 (by omega)]
def z1 (s : St) : St := numS 1 s
def z2 (s : St) : St := numS 2 (z1 s)
def z3 (s : St) : St := numS 2 (z2 s)
def z4 (s : St) : St := numS 2 (z3 s)
def z5 (s : St) : St := numS 2 (z4 s)
def z6 (s : St) : St := numS 4 (z5 s)
def headR (s : St) : Rec := ⟨numA 1 s, numA 2 (z1 s), numA 2 (z2 s), numA 2 (z3 s), numA 2 (z4 s), numA 4 (z5 s), 0, 0, 0, 0, ⟨#[]⟩⟩
def ownS (k : Int) (s : St) : St := if k = 1 then numS 4 (numS 4 s) else if k = 2 then numS 1 (numS 2 (numS 2 (numS 4 s))) else if k = 3 then txtS s else s
def ownR (r : Rec) (s : St) : Rec :=
 if r.kind = 1 then { r with start := numA 4 s, size := numA 4 (numS 4 s) }
 else if r.kind = 2 then { r with start := numA 4 s, size := numA 2 (numS 4 s), frag := numA 2 (numS 2 (numS 4 s)), off := numA 1 (numS 2 (numS 2 (numS 4 s))) }
 else if r.kind = 3 then { r with target := strOfNums (txtA s) }
 else r
def readR (zs : List Int) : Rec := ownR (headR (zs, 0)) (z6 (zs, 0))
def readS (zs : List Int) : St := ownS (numA 1 (zs, 0)) (z6 (zs, 0))
theorem ps_app (n : Nat) (a r : List Int) (h : a.length = n) : ps n (a ++ r, 0) = (r, 0) := by
 unfold ps; rw [if_neg (by simp; omega)]; simp [← h]
theorem pa_app (n : Nat) (a r : List Int) (h : a.length = n) : pa n (a ++ r, 0) = a := by
 unfold pa; rw [if_neg (by simp; omega)]; simp [← h]
theorem num_app (m : Int) (n : Nat) (hm : m = (n : Int)) (x : Int) (r : List Int) (h1 : 1 ≤ n) (h4 : n ≤ 4) (h0 : 0 ≤ x) (h : x < 256 ^ n) : numS m (by' n x ++ r, 0) = (r, 0) ∧ numA m (by' n x ++ r, 0) = x := by
 subst hm
 unfold numS numA
 rw [if_pos (by omega), if_pos (by omega), Int.toNat_natCast, ps_app _ _ _ (by_length n x), pa_app _ _ _ (by_length n x), le_by n x h0 h]
 exact ⟨rfl, rfl⟩
theorem txt_app (b r : List Int) (h : b.length ≤ 255) : txtS ((b.length : Int) :: b ++ r, 0) = (r, 0) ∧ txtA ((b.length : Int) :: b ++ r, 0) = b := by
 have h1 := num_app 1 1 rfl b.length (b ++ r) (by omega) (by omega) (by omega) (by omega)
 have e : by' 1 (b.length : Int) = [(b.length : Int)] := by simp [by']; omega
 rw [e] at h1
 have e2 : ((b.length : Int) :: b ++ r, (0 : Int)) = ([(b.length : Int)] ++ (b ++ r), 0) := rfl
 rw [e2]
 unfold txtS txtA
 rw [h1.1, h1.2, Int.toNat_natCast, ps_app _ _ _ rfl, pa_app _ _ _ rfl]
 exact ⟨rfl, rfl⟩
theorem str_sb (s : ByteArray) : strOfNums (sb s) = s := by
 unfold strOfNums sb
 rw [List.map_map]
 have : ((fun n : Int => UInt8.ofNat n.toNat) ∘ fun b : UInt8 => (b.toNat : Int)) = id := by
  funext b; simp
 rw [this, List.map_id]
theorem read_head {s : Rec} (h : s.may = true) (r : List Int) : z6 (headB s ++ r, 0) = (r, 0) ∧ headR (headB s ++ r, 0) = ⟨s.kind, s.mode, s.uid, s.gid, s.links, s.xattr, 0, 0, 0, 0, ⟨#[]⟩⟩ := by
 obtain ⟨hk, h1, h2, h3, h4, h5, h6⟩ := may_facts h
 have hk' := kinds hk
 have e1 := num_app 1 1 rfl s.kind (by' 2 s.mode ++ (by' 2 s.uid ++ (by' 2 s.gid ++ (by' 2 s.links ++ (by' 4 s.xattr ++ r))))) (by omega) (by omega) (by omega) (by omega)
 have e2 := num_app 2 2 rfl s.mode (by' 2 s.uid ++ (by' 2 s.gid ++ (by' 2 s.links ++ (by' 4 s.xattr ++ r)))) (by omega) (by omega) (by omega) (by omega)
 have e3 := num_app 2 2 rfl s.uid (by' 2 s.gid ++ (by' 2 s.links ++ (by' 4 s.xattr ++ r))) (by omega) (by omega) (by omega) (by omega)
 have e4 := num_app 2 2 rfl s.gid (by' 2 s.links ++ (by' 4 s.xattr ++ r)) (by omega) (by omega) (by omega) (by omega)
 have e5 := num_app 2 2 rfl s.links (by' 4 s.xattr ++ r) (by omega) (by omega) (by omega) (by omega)
 have e6 := num_app 4 4 rfl s.xattr r (by omega) (by omega) (by omega) (by omega)
 have eh : headB s ++ r = by' 1 s.kind ++ (by' 2 s.mode ++ (by' 2 s.uid ++ (by' 2 s.gid ++ (by' 2 s.links ++ (by' 4 s.xattr ++ r))))) := by simp [headB]
 rw [eh]
 unfold headR z6 z5 z4 z3 z2 z1
 rw [e1.1, e1.2, e2.1, e2.2, e3.1, e3.2, e4.1, e4.2, e5.1, e5.2, e6.1, e6.2]
 exact ⟨rfl, rfl⟩
theorem read_put {s : Rec} (h : s.may = true) : readR (putB s) = s ∧ readS (putB s) = ([], 0) := by
 obtain ⟨hk, h1, h2, h3, h4, h5, h6⟩ := may_facts h
 obtain ⟨eS, eR⟩ := read_head h (ownB s)
 have eK : numA 1 (putB s, 0) = s.kind := by
  have : (headR (headB s ++ ownB s, 0)).kind = s.kind := by rw [eR]
  exact this
 unfold readR readS
 rw [eK]
 unfold putB
 rw [eS, eR]
 unfold ownR ownS ownB
 obtain ⟨kind, mode, uid, gid, links, xattr, start, size, frag, off, target⟩ := s
 rcases kinds hk with hk | hk | hk
 ·obtain ⟨d1, d2, d3, d4, d5, d6⟩ := dir_facts hk h6
  simp only at hk d1 d2 d3 d4 d5 d6 ⊢
  subst hk d4 d5 d6
  have e1 := num_app 4 4 rfl start (by' 4 size) (by omega) (by omega) (by omega) (by omega)
  have e2 := num_app 4 4 rfl size [] (by omega) (by omega) (by omega) (by omega)
  rw [List.append_nil] at e2
  simp only [if_true]
  rw [e1.1, e1.2, e2.1, e2.2]
  exact ⟨rfl, rfl⟩
 ·obtain ⟨d1, d2, d3, d4, d5⟩ := file_facts hk h6
  simp only at hk d1 d2 d3 d4 d5 ⊢
  subst hk d5
  have e1 := num_app 4 4 rfl start (by' 2 size ++ (by' 2 frag ++ by' 1 off)) (by omega) (by omega) (by omega) (by omega)
  have e2 := num_app 2 2 rfl size (by' 2 frag ++ by' 1 off) (by omega) (by omega) (by omega) (by omega)
  have e3 := num_app 2 2 rfl frag (by' 1 off) (by omega) (by omega) (by omega) (by omega)
  have e4 := num_app 1 1 rfl off [] (by omega) (by omega) (by omega) (by omega)
  rw [List.append_nil] at e4
  rw [if_neg (by omega), if_pos rfl, if_neg (by omega), if_pos rfl, if_neg (by omega), if_pos rfl]
  rw [e1.1, e1.2, e2.1, e2.2, e3.1, e3.2, e4.1, e4.2]
  exact ⟨rfl, rfl⟩
 ·obtain ⟨d1, d2, d3, d4, d5⟩ := link_facts hk h6
  simp only at hk d1 d2 d3 d4 d5 ⊢
  subst hk d2 d3 d4 d5
  have e1 := txt_app (sb target) [] (by rw [sb_length]; omega)
  rw [List.append_nil, sb_length] at e1
  rw [if_neg (by omega), if_neg (by omega), if_pos rfl, if_neg (by omega), if_neg (by omega), if_pos rfl, if_neg (by omega), if_neg (by omega), if_pos rfl, e1.1, e1.2, str_sb]
  exact ⟨rfl, rfl⟩
end Go.Proofs.YtoohanojfoichaaGreatDoor.Ino
namespace Go.Proofs.YtoohanojfoichaaGreatDoor.Cap
open Cur
open Lz (g)
theorem by_le : ∀ (n : Nat) (zs : List Int), Bytes zs → zs.length = n → by' n (le zs) = zs
 | 0, [], _, _ => rfl
 | 0, _ :: _, _, h => by simp at h
 | n + 1, [], _, h => by simp at h
 | n + 1, x :: xs, hb, h => by
  have hx := hb x (by simp)
  have ih := by_le n xs (fun y hy => hb y (List.mem_cons_of_mem _ hy)) (by simpa using h)
  simp only [by', le]
  rw [show (x + 256 * le xs) % 256 = x by omega, show (x + 256 * le xs) / 256 = le xs by omega, ih]
theorem ps_app (n : Nat) (a r : List Int) (h : a.length = n) : ps n (a ++ r, 0) = (r, 0) := by
 unfold ps; rw [if_neg (by simp; omega)]; simp [← h]
theorem pa_app (n : Nat) (a r : List Int) (h : a.length = n) : pa n (a ++ r, 0) = a := by
 unfold pa; rw [if_neg (by simp; omega)]; simp [← h]
theorem num_app (m : Int) (n : Nat) (hm : m = (n : Int)) (x : Int) (r : List Int) (h1 : 1 ≤ n) (h4 : n ≤ 4) (h0 : 0 ≤ x) (h : x < 256 ^ n) : numS m (by' n x ++ r, 0) = (r, 0) ∧ numA m (by' n x ++ r, 0) = x := by
 subst hm
 unfold numS numA
 rw [if_pos (by omega), if_pos (by omega), Int.toNat_natCast, ps_app _ _ _ (by_length n x), pa_app _ _ _ (by_length n x), le_by n x h0 h]
 exact ⟨rfl, rfl⟩
theorem txt_app (b r : List Int) (h : b.length ≤ 255) : txtS ((b.length : Int) :: b ++ r, 0) = (r, 0) ∧ txtA ((b.length : Int) :: b ++ r, 0) = b := by
 have h1 := num_app 1 1 rfl b.length (b ++ r) (by omega) (by omega) (by omega) (by omega)
 have e : by' 1 (b.length : Int) = [(b.length : Int)] := by simp [by']; omega
 rw [e] at h1
 have e2 : ((b.length : Int) :: b ++ r, (0 : Int)) = ([(b.length : Int)] ++ (b ++ r), 0) := rfl
 rw [e2]
 unfold txtS txtA
 rw [h1.1, h1.2, Int.toNat_natCast, ps_app _ _ _ rfl, pa_app _ _ _ rfl]
 exact ⟨rfl, rfl⟩
theorem str_sb (s : ByteArray) : strOfNums (sb s) = s := by
 unfold strOfNums sb
 rw [List.map_map]
 have : ((fun n : Int => UInt8.ofNat n.toNat) ∘ fun b : UInt8 => (b.toNat : Int)) = id := by
  funext b; simp
 rw [this, List.map_id]
theorem sb_str {zs : List Int} (h : Bytes zs) : sb (strOfNums zs) = zs := by
 unfold sb
 rw [strOfNums_data, List.map_map]
 have : ∀ x ∈ zs, ((fun b : UInt8 => (b.toNat : Int)) ∘ fun n : Int => UInt8.ofNat n.toNat) x = x := fun x hx => by
  have := h x hx
  simp only [Function.comp, UInt8.toNat_ofNat']
  omega
 rw [List.map_congr_left this, List.map_id']
theorem num_ok (m : Int) (n : Nat) (hm : m = (n : Int)) {s : St} (h1 : 1 ≤ n) (h4 : n ≤ 4) (h : (numS m s).2 = 0) (hb : Bytes s.1) : s.2 = 0 ∧ s.1 = by' n (numA m s) ++ (numS m s).1 := by
 subst hm
 unfold numS numA at *
 rw [if_pos (by omega)] at h
 rw [if_pos (by omega), if_pos (by omega)]
 rw [Int.toNat_natCast] at *
 unfold ps pa at *
 by_cases hl : s.1.length < n
 ·rw [if_pos hl] at h
  unfold fl at h
  split at h
  ·simp at h
  ·contradiction
 ·rw [if_neg hl] at h
  rw [if_neg hl, if_neg hl, by_le n _ (hb.take n) (by simp; omega)]
  exact ⟨h, (List.take_append_drop n s.1).symm⟩
theorem num_bytes {n : Int} {s : St} (hb : Bytes s.1) : Bytes (numS n s).1 := by
 unfold numS ps fl
 repeat' split
 all_goals first | exact Bytes.nil | exact hb | exact hb.drop _
theorem txt_ok {s : St} (h : (txtS s).2 = 0) (hb : Bytes s.1) : s.2 = 0 ∧ s.1 = ((txtA s).length : Int) :: txtA s ++ (txtS s).1 := by
 unfold txtS txtA at *
 have hn : (numS 1 s).2 = 0 := by
  unfold ps at h
  split at h
  ·unfold fl at h; split at h; (simp at h); contradiction
  ·exact h
 have h1 := num_ok 1 1 rfl (by omega) (by omega) hn hb
 have hq := numA_bound 1 s hb
 refine ⟨h1.1, ?_⟩
 unfold ps pa at *
 by_cases hl : (numS 1 s).1.length < (numA 1 s).toNat
 ·rw [if_pos hl] at h
  unfold fl at h
  split at h
  ·simp at h
  ·contradiction
 ·rw [if_neg hl, if_neg hl]
  have e : ((List.take (numA 1 s).toNat (numS 1 s).1).length : Int) = numA 1 s := by simp; omega
  have h2 : s.1 = by' 1 (numA 1 s) ++ (numS 1 s).1 := h1.2
  have e3 : by' 1 (numA 1 s) = [numA 1 s] := by
   have h3 : by' 1 (numA 1 s) = s.1.take 1 := by rw [h2]; simp [by_length]
   have h4 : le (by' 1 (numA 1 s)) = le (s.1.take 1) := by rw [h3]
   unfold numA at hq ⊢
   rw [if_pos (by omega)] at hq ⊢
   have hb1 : le (pa (1 : Int).toNat s) < 256 := by
    have : Bytes (pa (1 : Int).toNat s) := by unfold pa; split; exact Bytes.nil; exact hb.take _
    have h5 := (le_bound this).2
    have h6 : (pa (1 : Int).toNat s).length ≤ 1 := by unfold pa; split; simp; simp; omega
    have h7 := pow256 h6
    omega
   simp only [by']
   congr 1
   omega
  rw [e]
  conv => lhs; rw [h2, e3]
  simp
end Go.Proofs.YtoohanojfoichaaGreatDoor.Cap

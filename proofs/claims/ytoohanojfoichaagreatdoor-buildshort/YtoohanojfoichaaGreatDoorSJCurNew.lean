/- What the proof stands on: CurNew, InoPure, CurApp, with what the proof reaches of it. -/
import Derived.Test.YtoohanojfoichaaGreatDoorSJBase
import Derived.Laws.CopyOwn

/- Writers that are new, frames of theirs; bytes in a row that is new and may be written: Clone and Done, once more. -/
namespace Go.Proofs.YtoohanojfoichaaGreatDoor
set_option linter.unusedVariables false
open Go.RowKit Go.Maps
open Lz (g)
open Cur

namespace Cur
theorem le_by : ∀ (n : Nat) (x : Int), 0 ≤ x → x < 256 ^ n → le (by' n x) = x
  | 0, x, h0, h => by simp at h; simp [by', le]; omega
  | n + 1, x, h0, h => by
    have h2 : x / 256 < 256 ^ n := by
      rw [Int.pow_succ] at h
      exact Int.ediv_lt_of_lt_mul (by omega) h
    simp only [by', le]
    rw [le_by n (x / 256) (by omega) h2]; omega
end Cur
/-- A writer that is new. -/
theorem WrP.new (w : World) (B : Nat) : WrP (w.alloc (.cells #[.slice none 0 0, .int .i64 0] 120)) w.heap.size B (.slice none 0 0) ([], 0) :=
  ⟨none, 0, 0, rfl, Hd.new _ _ _ _ _ _, World.ownsRow_nil _ _ _ _, Bytes.nil, .inl rfl⟩
theorem Fr.two_below {w w' : World} {p B : Nat} {v : Value} (h : Fr (Two p v) w w') (hB : B ≤ w.heap.size) (hp : B ≤ p) (hv : ∀ k, v.ownBlock = some k → B ≤ k) : Below B w w' :=
  h.below B hB (fun k hk => by rcases hk with hk | hk; (have : k = p := hk; omega); exact hv k hk)
theorem Fr.one_below {w w' : World} {p B : Nat} (h : Fr (One p) w w') (hB : B ≤ w.heap.size) (hp : B ≤ p) : Below B w w' :=
  h.below B hB (fun k hk => by have : k = p := hk; omega)
theorem WrP.base {w : World} {p B : Nat} {v : Value} {s : St} (h : WrP w p B v s) : ∀ k, v.ownBlock = some k → B ≤ k := by
  obtain ⟨ao, n, c, rfl, _, h3, _⟩ := h
  intro k hk
  exact (h3.lt k hk).1
theorem WrP.lt {w : World} {p B : Nat} {v : Value} {s : St} (h : WrP w p B v s) : p < w.heap.size := by
  obtain ⟨ao, n, c, rfl, h2, _⟩ := h; exact h2.lt

set_option maxRecDepth 100000 in
theorem DoneNew_any (p B : Nat) (v : Value) (s : St) (w : World) (h : WrP w p B v s) (hbd : s.1.length ≤ 100000000) :
    Calls Tryz.prog 66 #[.pointer (some ⟨p, 0, none⟩)] w fun r w' => ∃ ao c, r = .returned (.slice ao s.1.length c) ∧ New w w' ao s.1.length c s.1 := by
  obtain ⟨vo, vn, vc, rfl, hd, ho, hby, hcan⟩ := h
  have hlen : s.1.length = vn := by have := ho.1; rw [bv_length] at this; omega
  have h0 := hd.c0
  have HB : Hid (Bs w vo vn s.1) := bs_of_owns ho hby
  have HN : Hid (vo = none → vc = 0) := nil_cap ho
  have hc := cap_of_owns ho
  clear hd ho
  rw [hlen]
  go_enter Tryz.func66, Tryz.ntmps66
  go_wp2_with fail
  refine (CloneNew_any vn vc vo s.1 w HB.out hc HN.out (by omega)).mono ?_
  rintro r w2 ⟨ao', c', rfl, hN⟩
  have HX : Hid (New w w2 ao' vn c' s.1) := hN
  clear hN
  go_wp2
  go_ret
  exact ⟨_, _, rfl, HX.out⟩
theorem setRow_fr {S : Nat → Prop} {a b : World} (h : Fr S a b) (q : Nat) (cs : Array Value) (hp : q < a.heap.size → S q) : Fr S a (b.setRow q cs) :=
  ⟨h.os, h.tape, h.output, by simpa [World.setRow] using h.size, fun i hi hn => (setRow_other b q i cs (fun e => by subst e; exact hn (hp hi))).trans (h.block i hi hn)⟩
theorem wNum_ok (zs : List Int) (m : Int) (n : Nat) (x : Int) (hm : m = (n : Int)) (h1 : 1 ≤ n) (h4 : n ≤ 4) (h0 : 0 ≤ x) (h : x < 256 ^ n) : wNum x m (zs, 0) = (zs ++ by' n x, 0) := by
  subst hm
  unfold wNum
  rw [if_pos ⟨by omega, by omega, h0, by rw [Int.toNat_natCast]; exact h⟩, Int.toNat_natCast]
  rfl
theorem wTxt_ok (zs : List Int) (t : ByteArray) (h : t.size ≤ 255) : wTxt (sb t) (zs, 0) = (zs ++ ((t.size : Int) :: sb t), 0) := by
  unfold wTxt
  rw [if_neg (by rw [sb_length]; omega), sb_length, wNum_ok zs 1 1 t.size rfl (by omega) (by omega) (by omega) (by omega)]
  have e : by' 1 (t.size : Int) = [(t.size : Int)] := by simp [by']; omega
  rw [e]
  show (zs ++ [(t.size : Int)] ++ sb t, (0 : Int)) = _
  simp
end Go.Proofs.YtoohanojfoichaaGreatDoor

/- Layer 9 as numbers and bytes: whether a record may be, its bytes, what is read of bytes; what follows. -/
namespace Go.Proofs.YtoohanojfoichaaGreatDoor.Ino
set_option linter.unusedVariables false
open Cur
open Lz (g)

/-- A record: its fields in the order of their declaration. -/
structure Rec where
  kind : Int
  mode : Int
  uid : Int
  gid : Int
  links : Int
  xattr : Int
  start : Int
  size : Int
  frag : Int
  off : Int
  target : ByteArray
def inn (n a b : Int) : Bool := decide (a ≤ n ∧ n ≤ b)
/-- No text. -/
def emp (t : ByteArray) : Bool := t.toList.isEmpty
/-- A text has no byte 0. -/
def nz (t : ByteArray) : Bool := decide (∀ x ∈ sb t, x ≠ 0)
def Rec.headOk (s : Rec) : Bool := inn s.mode 0 511 && inn s.uid 0 2047 && inn s.gid 0 2047 && inn s.links 1 1024 && inn s.xattr 0 4294967295
def Rec.dirOk (s : Rec) : Bool := (s.links == 1) && inn s.start 0 4294967295 && inn s.size 0 1048576 && (s.frag == 0) && (s.off == 0) && emp s.target
def Rec.fileOk (s : Rec) : Bool := inn s.start 0 4294967295 && inn s.size 0 4096 && inn s.frag 0 1024 && ((s.size.tmod 128 != 0) == (s.frag != 0)) && inn s.off 0 127 && ((s.off == 0) || (s.frag != 0)) && emp s.target
def Rec.linkOk (s : Rec) : Bool := inn s.target.size 1 200 && nz s.target && (s.start == 0) && (s.size == 0) && (s.frag == 0) && (s.off == 0)
/-- What a kind has of its own. -/
def Rec.ownOk (s : Rec) : Bool := if s.kind = 1 then s.dirOk else if s.kind = 2 then s.fileOk else if s.kind = 3 then s.linkOk else false
def isKind (k : Int) : Bool := decide (k = 1 ∨ k = 2 ∨ k = 3)
def Rec.may (s : Rec) : Bool := s.headOk && s.ownOk
theorem may_kind {s : Rec} (h : isKind s.kind = false) : s.may = false := by
  unfold isKind at h
  simp only [decide_eq_false_iff_not, not_or] at h
  unfold Rec.may Rec.ownOk
  rw [if_neg h.1, if_neg h.2.1, if_neg h.2.2, Bool.and_false]
theorem kind_may {s : Rec} (h : s.may = true) : isKind s.kind = true := by
  cases hk : isKind s.kind with
  | true => rfl
  | false => rw [may_kind hk] at h; cases h

/-- What all have: the first 13 bytes. -/
def headB (s : Rec) : List Int := by' 1 s.kind ++ (by' 2 s.mode ++ (by' 2 s.uid ++ (by' 2 s.gid ++ (by' 2 s.links ++ by' 4 s.xattr))))
/-- What a kind has of its own. -/
def ownB (s : Rec) : List Int :=
  if s.kind = 1 then by' 4 s.start ++ by' 4 s.size
  else if s.kind = 2 then by' 4 s.start ++ (by' 2 s.size ++ (by' 2 s.frag ++ by' 1 s.off))
  else if s.kind = 3 then (s.target.size : Int) :: sb s.target
  else []
def putB (s : Rec) : List Int := headB s ++ ownB s
theorem headB_length (s : Rec) : (headB s).length = 13 := by simp [headB, by_length]
/-- What may be, as facts. -/
theorem may_facts {s : Rec} (h : s.may = true) : isKind s.kind = true ∧ (0 ≤ s.mode ∧ s.mode ≤ 511) ∧ (0 ≤ s.uid ∧ s.uid ≤ 2047) ∧ (0 ≤ s.gid ∧ s.gid ≤ 2047) ∧ (1 ≤ s.links ∧ s.links ≤ 1024) ∧ (0 ≤ s.xattr ∧ s.xattr ≤ 4294967295) ∧ s.ownOk = true := by
  have hk := kind_may h
  unfold Rec.may Rec.headOk inn at h
  simp only [Bool.and_eq_true, decide_eq_true_eq] at h
  obtain ⟨⟨⟨⟨⟨h1, h2⟩, h3⟩, h4⟩, h5⟩, h6⟩ := h
  exact ⟨hk, h1, h2, h3, h4, h5, h6⟩
theorem emp_iff {t : ByteArray} : emp t = true ↔ t = ⟨#[]⟩ := by
  unfold emp
  constructor
  · intro h
    have h1 : t.toList = [] := by simpa using h
    have h2 : t.data.toList = [] := by rw [← ByteArray.toList_eq] at *; exact h1
    obtain ⟨d⟩ := t
    simp at h2
    rw [h2]
  · rintro rfl; simp [ByteArray.toList_eq]
theorem dir_facts {s : Rec} (hk : s.kind = 1) (h : s.ownOk = true) : s.links = 1 ∧ (0 ≤ s.start ∧ s.start ≤ 4294967295) ∧ (0 ≤ s.size ∧ s.size ≤ 1048576) ∧ s.frag = 0 ∧ s.off = 0 ∧ s.target = ⟨#[]⟩ := by
  unfold Rec.ownOk at h
  rw [if_pos hk] at h
  unfold Rec.dirOk inn at h
  simp only [Bool.and_eq_true, decide_eq_true_eq, beq_iff_eq, emp_iff] at h
  obtain ⟨⟨⟨⟨⟨h1, h2⟩, h3⟩, h4⟩, h5⟩, h6⟩ := h
  exact ⟨h1, h2, h3, h4, h5, h6⟩
theorem file_facts {s : Rec} (hk : s.kind = 2) (h : s.ownOk = true) : (0 ≤ s.start ∧ s.start ≤ 4294967295) ∧ (0 ≤ s.size ∧ s.size ≤ 4096) ∧ (0 ≤ s.frag ∧ s.frag ≤ 1024) ∧ (0 ≤ s.off ∧ s.off ≤ 127) ∧ s.target = ⟨#[]⟩ := by
  unfold Rec.ownOk at h
  rw [if_neg (by omega), if_pos hk] at h
  unfold Rec.fileOk inn at h
  simp only [Bool.and_eq_true, decide_eq_true_eq, emp_iff] at h
  obtain ⟨⟨⟨⟨⟨⟨h1, h2⟩, h3⟩, h4⟩, h5⟩, h6⟩, h7⟩ := h
  exact ⟨h1, h2, h3, h5, h7⟩
theorem link_facts {s : Rec} (hk : s.kind = 3) (h : s.ownOk = true) : (1 ≤ s.target.size ∧ s.target.size ≤ 200) ∧ s.start = 0 ∧ s.size = 0 ∧ s.frag = 0 ∧ s.off = 0 := by
  unfold Rec.ownOk at h
  rw [if_neg (by omega), if_neg (by omega), if_pos hk] at h
  unfold Rec.linkOk inn at h
  simp only [Bool.and_eq_true, decide_eq_true_eq, beq_iff_eq] at h
  obtain ⟨⟨⟨⟨⟨h1, h2⟩, h3⟩, h4⟩, h5⟩, h6⟩ := h
  exact ⟨by omega, h3, h4, h5, h6⟩
theorem ownB_length {s : Rec} (h : s.may = true) : (s.kind = 1 → (ownB s).length = 8) ∧ (s.kind = 2 → (ownB s).length = 9) ∧ (s.kind = 3 → (ownB s).length = 1 + s.target.size) := by
  refine ⟨fun hk => ?_, fun hk => ?_, fun hk => ?_⟩
  · unfold ownB; rw [if_pos hk]; simp [by_length]
  · unfold ownB; rw [if_neg (by omega), if_pos hk]; simp [by_length]
  · unfold ownB; rw [if_neg (by omega), if_neg (by omega), if_pos hk]; simp [sb_length]; omega
theorem kinds {k : Int} (h : isKind k = true) : k = 1 ∨ k = 2 ∨ k = 3 := by unfold isKind at h; simpa using h
theorem putB_least {s : Rec} (h : s.may = true) : 15 ≤ (putB s).length ∧ (putB s).length ≤ 214 := by
  have hl := ownB_length h
  have e : (putB s).length = 13 + (ownB s).length := by simp [putB, headB_length]
  rw [e]
  rcases kinds (kind_may h) with hk | hk | hk
  · rw [hl.1 hk]; omega
  · rw [hl.2.1 hk]; omega
  · have := (link_facts hk (may_facts h).2.2.2.2.2.2).1
    rw [hl.2.2 hk]; omega
end Go.Proofs.YtoohanojfoichaaGreatDoor.Ino

/- Cursors as lists alone: what was written is read as it was; what is read without an error is what stood there. -/
namespace Go.Proofs.YtoohanojfoichaaGreatDoor.Cap
set_option linter.unusedVariables false
open Cur
open Lz (g)

theorem sb_str {zs : List Int} (h : Bytes zs) : sb (strOfNums zs) = zs := by
  unfold sb
  rw [strOfNums_data, List.map_map]
  have : ∀ x ∈ zs, ((fun b : UInt8 => (b.toNat : Int)) ∘ fun n : Int => UInt8.ofNat n.toNat) x = x := fun x hx => by
    have := h x hx
    simp only [Function.comp, UInt8.toNat_ofNat']
    omega
  rw [List.map_congr_left this, List.map_id']
end Go.Proofs.YtoohanojfoichaaGreatDoor.Cap

/- Layer 9 as numbers and bytes: whether a record may be, its bytes, what is read of bytes; what follows. -/
import Derived.Test.YtmhgjilpgbkaaaaCurNew
namespace Go.Proofs.Ytmhgjilpgbkaaaa.Ino
set_option linter.unusedVariables false
open Cur
open Lz (g)

/-- A record: its fields in the order of their declaration. -/
structure Rec where
  kind : Int
  mode : Int
  uid : Int
  gid : Int
  links : Int
  xattr : Int
  start : Int
  size : Int
  frag : Int
  off : Int
  target : ByteArray
def inn (n a b : Int) : Bool := decide (a ≤ n ∧ n ≤ b)
/-- No text. -/
def emp (t : ByteArray) : Bool := t.toList.isEmpty
/-- A text has no byte 0. -/
def nz (t : ByteArray) : Bool := decide (∀ x ∈ sb t, x ≠ 0)
def Rec.headOk (s : Rec) : Bool := inn s.mode 0 511 && inn s.uid 0 2047 && inn s.gid 0 2047 && inn s.links 1 1024 && inn s.xattr 0 4294967295
def Rec.dirOk (s : Rec) : Bool := (s.links == 1) && inn s.start 0 4294967295 && inn s.size 0 1048576 && (s.frag == 0) && (s.off == 0) && emp s.target
def Rec.fileOk (s : Rec) : Bool := inn s.start 0 4294967295 && inn s.size 0 4096 && inn s.frag 0 1024 && ((s.size.tmod 128 != 0) == (s.frag != 0)) && inn s.off 0 127 && ((s.off == 0) || (s.frag != 0)) && emp s.target
def Rec.linkOk (s : Rec) : Bool := inn s.target.size 1 200 && nz s.target && (s.start == 0) && (s.size == 0) && (s.frag == 0) && (s.off == 0)
/-- What a kind has of its own. -/
def Rec.ownOk (s : Rec) : Bool := if s.kind = 1 then s.dirOk else if s.kind = 2 then s.fileOk else if s.kind = 3 then s.linkOk else false
def isKind (k : Int) : Bool := decide (k = 1 ∨ k = 2 ∨ k = 3)
def Rec.may (s : Rec) : Bool := s.headOk && s.ownOk
/-- All its numbers are ints of 64 bits. -/
def Rec.In (s : Rec) : Prop := In64 s.kind ∧ In64 s.mode ∧ In64 s.uid ∧ In64 s.gid ∧ In64 s.links ∧ In64 s.xattr ∧ In64 s.start ∧ In64 s.size ∧ In64 s.frag ∧ In64 s.off
theorem may_kind {s : Rec} (h : isKind s.kind = false) : s.may = false := by
  unfold isKind at h
  simp only [decide_eq_false_iff_not, not_or] at h
  unfold Rec.may Rec.ownOk
  rw [if_neg h.1, if_neg h.2.1, if_neg h.2.2, Bool.and_false]
theorem kind_may {s : Rec} (h : s.may = true) : isKind s.kind = true := by
  cases hk : isKind s.kind with
  | true => rfl
  | false => rw [may_kind hk] at h; cases h

/-- What all have: the first 13 bytes. -/
def headB (s : Rec) : List Int := by' 1 s.kind ++ (by' 2 s.mode ++ (by' 2 s.uid ++ (by' 2 s.gid ++ (by' 2 s.links ++ by' 4 s.xattr))))
/-- What a kind has of its own. -/
def ownB (s : Rec) : List Int :=
  if s.kind = 1 then by' 4 s.start ++ by' 4 s.size
  else if s.kind = 2 then by' 4 s.start ++ (by' 2 s.size ++ (by' 2 s.frag ++ by' 1 s.off))
  else if s.kind = 3 then (s.target.size : Int) :: sb s.target
  else []
def putB (s : Rec) : List Int := headB s ++ ownB s
theorem headB_length (s : Rec) : (headB s).length = 13 := by simp [headB, by_length]
theorem headB_bytes (s : Rec) : Bytes (headB s) := (by_bytes _ _).append ((by_bytes _ _).append ((by_bytes _ _).append ((by_bytes _ _).append ((by_bytes _ _).append (by_bytes _ _)))))
/-- What may be, as facts. -/
theorem may_facts {s : Rec} (h : s.may = true) : isKind s.kind = true ∧ (0 ≤ s.mode ∧ s.mode ≤ 511) ∧ (0 ≤ s.uid ∧ s.uid ≤ 2047) ∧ (0 ≤ s.gid ∧ s.gid ≤ 2047) ∧ (1 ≤ s.links ∧ s.links ≤ 1024) ∧ (0 ≤ s.xattr ∧ s.xattr ≤ 4294967295) ∧ s.ownOk = true := by
  have hk := kind_may h
  unfold Rec.may Rec.headOk inn at h
  simp only [Bool.and_eq_true, decide_eq_true_eq] at h
  obtain ⟨⟨⟨⟨⟨h1, h2⟩, h3⟩, h4⟩, h5⟩, h6⟩ := h
  exact ⟨hk, h1, h2, h3, h4, h5, h6⟩
theorem emp_iff {t : ByteArray} : emp t = true ↔ t = ⟨#[]⟩ := by
  unfold emp
  constructor
  · intro h
    have h1 : t.toList = [] := by simpa using h
    have h2 : t.data.toList = [] := by rw [← ByteArray.toList_eq] at *; exact h1
    obtain ⟨d⟩ := t
    simp at h2
    rw [h2]
  · rintro rfl; simp [ByteArray.toList_eq]
theorem dir_facts {s : Rec} (hk : s.kind = 1) (h : s.ownOk = true) : s.links = 1 ∧ (0 ≤ s.start ∧ s.start ≤ 4294967295) ∧ (0 ≤ s.size ∧ s.size ≤ 1048576) ∧ s.frag = 0 ∧ s.off = 0 ∧ s.target = ⟨#[]⟩ := by
  unfold Rec.ownOk at h
  rw [if_pos hk] at h
  unfold Rec.dirOk inn at h
  simp only [Bool.and_eq_true, decide_eq_true_eq, beq_iff_eq, emp_iff] at h
  obtain ⟨⟨⟨⟨⟨h1, h2⟩, h3⟩, h4⟩, h5⟩, h6⟩ := h
  exact ⟨h1, h2, h3, h4, h5, h6⟩
theorem file_facts {s : Rec} (hk : s.kind = 2) (h : s.ownOk = true) : (0 ≤ s.start ∧ s.start ≤ 4294967295) ∧ (0 ≤ s.size ∧ s.size ≤ 4096) ∧ (0 ≤ s.frag ∧ s.frag ≤ 1024) ∧ (0 ≤ s.off ∧ s.off ≤ 127) ∧ s.target = ⟨#[]⟩ := by
  unfold Rec.ownOk at h
  rw [if_neg (by omega), if_pos hk] at h
  unfold Rec.fileOk inn at h
  simp only [Bool.and_eq_true, decide_eq_true_eq, emp_iff] at h
  obtain ⟨⟨⟨⟨⟨⟨h1, h2⟩, h3⟩, h4⟩, h5⟩, h6⟩, h7⟩ := h
  exact ⟨h1, h2, h3, h5, h7⟩
theorem link_facts {s : Rec} (hk : s.kind = 3) (h : s.ownOk = true) : (1 ≤ s.target.size ∧ s.target.size ≤ 200) ∧ s.start = 0 ∧ s.size = 0 ∧ s.frag = 0 ∧ s.off = 0 := by
  unfold Rec.ownOk at h
  rw [if_neg (by omega), if_neg (by omega), if_pos hk] at h
  unfold Rec.linkOk inn at h
  simp only [Bool.and_eq_true, decide_eq_true_eq, beq_iff_eq] at h
  obtain ⟨⟨⟨⟨⟨h1, h2⟩, h3⟩, h4⟩, h5⟩, h6⟩ := h
  exact ⟨by omega, h3, h4, h5, h6⟩
/-- How long it is, by its first 14 bytes. -/
def long (zs : List Int) : Nat := if g zs 0 = 1 then 21 else if g zs 0 = 2 then 22 else if g zs 0 = 3 then 14 + (g zs 13).toNat else 0
theorem ownB_length {s : Rec} (h : s.may = true) : (s.kind = 1 → (ownB s).length = 8) ∧ (s.kind = 2 → (ownB s).length = 9) ∧ (s.kind = 3 → (ownB s).length = 1 + s.target.size) := by
  refine ⟨fun hk => ?_, fun hk => ?_, fun hk => ?_⟩
  · unfold ownB; rw [if_pos hk]; simp [by_length]
  · unfold ownB; rw [if_neg (by omega), if_pos hk]; simp [by_length]
  · unfold ownB; rw [if_neg (by omega), if_neg (by omega), if_pos hk]; simp [sb_length]; omega
theorem kinds {k : Int} (h : isKind k = true) : k = 1 ∨ k = 2 ∨ k = 3 := by unfold isKind at h; simpa using h
theorem putB_zero {s : Rec} (h : s.may = true) : g (putB s) 0 = s.kind := by
  have hk := kinds (kind_may h)
  unfold putB headB
  simp only [by', List.cons_append, List.nil_append]
  simp only [g, List.getD_cons_zero]
  omega
theorem putB_13 {s : Rec} (h : s.may = true) (hk : s.kind = 3) : g (putB s) 13 = s.target.size := by
  have e : ownB s = (s.target.size : Int) :: sb s.target := by unfold ownB; rw [if_neg (by omega), if_neg (by omega), if_pos hk]
  unfold putB
  rw [e]
  simp only [g, List.getD_eq_getElem?_getD]
  rw [List.getElem?_append_right (by rw [headB_length]; omega), headB_length]
  rfl
theorem putB_long {s : Rec} (h : s.may = true) : (putB s).length = long (putB s) := by
  have h0 := putB_zero h
  have hl := ownB_length h
  unfold long
  rw [h0]
  have e : (putB s).length = 13 + (ownB s).length := by simp [putB, headB_length]
  rw [e]
  rcases kinds (kind_may h) with hk | hk | hk
  · rw [if_pos hk, hl.1 hk]
  · rw [if_neg (by omega), if_pos hk, hl.2.1 hk]
  · rw [if_neg (by omega), if_neg (by omega), if_pos hk, hl.2.2 hk, putB_13 h hk]; omega
theorem putB_least {s : Rec} (h : s.may = true) : 15 ≤ (putB s).length ∧ (putB s).length ≤ 214 := by
  have hl := ownB_length h
  have e : (putB s).length = 13 + (ownB s).length := by simp [putB, headB_length]
  rw [e]
  rcases kinds (kind_may h) with hk | hk | hk
  · rw [hl.1 hk]; omega
  · rw [hl.2.1 hk]; omega
  · have := (link_facts hk (may_facts h).2.2.2.2.2.2).1
    rw [hl.2.2 hk]; omega
theorem putB_bytes {s : Rec} (h : s.may = true) : Bytes (putB s) := by
  refine (headB_bytes s).append ?_
  rcases kinds (kind_may h) with hk | hk | hk
  · unfold ownB; rw [if_pos hk]; exact (by_bytes _ _).append (by_bytes _ _)
  · unfold ownB; rw [if_neg (by omega), if_pos hk]; exact (by_bytes _ _).append ((by_bytes _ _).append ((by_bytes _ _).append (by_bytes _ _)))
  · have := (link_facts hk (may_facts h).2.2.2.2.2.2).1
    unfold ownB; rw [if_neg (by omega), if_neg (by omega), if_pos hk]
    intro x hx
    rcases List.mem_cons.1 hx with rfl | hx
    · omega
    · exact sb_bytes _ x hx
theorem long_take {zs ys : List Int} (h : zs.take 14 = ys.take 14) : long zs = long ys := by
  have e : ∀ i, i < 14 → g zs i = g ys i := fun i hi => by rw [← Lz.g_take zs 14 i hi, h, Lz.g_take ys 14 i hi]
  unfold long
  rw [e 0 (by omega), e 13 (by omega)]

/-- What is read: the head, then what the kind has of its own; a state behind each. -/
def z1 (s : St) : St := numS 1 s
def z2 (s : St) : St := numS 2 (z1 s)
def z3 (s : St) : St := numS 2 (z2 s)
def z4 (s : St) : St := numS 2 (z3 s)
def z5 (s : St) : St := numS 2 (z4 s)
def z6 (s : St) : St := numS 4 (z5 s)
def headR (s : St) : Rec := ⟨numA 1 s, numA 2 (z1 s), numA 2 (z2 s), numA 2 (z3 s), numA 2 (z4 s), numA 4 (z5 s), 0, 0, 0, 0, ⟨#[]⟩⟩
def ownS (k : Int) (s : St) : St := if k = 1 then numS 4 (numS 4 s) else if k = 2 then numS 1 (numS 2 (numS 2 (numS 4 s))) else if k = 3 then txtS s else s
def ownR (r : Rec) (s : St) : Rec :=
  if r.kind = 1 then { r with start := numA 4 s, size := numA 4 (numS 4 s) }
  else if r.kind = 2 then { r with start := numA 4 s, size := numA 2 (numS 4 s), frag := numA 2 (numS 2 (numS 4 s)), off := numA 1 (numS 2 (numS 2 (numS 4 s))) }
  else if r.kind = 3 then { r with target := strOfNums (txtA s) }
  else r
def readR (zs : List Int) : Rec := ownR (headR (zs, 0)) (z6 (zs, 0))
def readS (zs : List Int) : St := ownS (numA 1 (zs, 0)) (z6 (zs, 0))
theorem ownR_kind (r : Rec) (s : St) : (ownR r s).kind = r.kind := by unfold ownR; split; rfl; split; rfl; split; rfl; rfl
theorem readR_kind (zs : List Int) : (readR zs).kind = numA 1 (zs, 0) := by unfold readR; rw [ownR_kind]; rfl
/-- The bytes are a record's that may be. -/
def good (zs : List Int) : Bool := (readR zs).may && decide ((endS (readS zs)).2 = 0)
theorem good_kind {zs : List Int} (h : isKind (numA 1 (zs, 0)) = false) : good zs = false := by
  unfold good
  rw [may_kind (by rw [readR_kind]; exact h)]; rfl

theorem by_le : ∀ (n : Nat) (zs : List Int), Bytes zs → zs.length = n → by' n (le zs) = zs
  | 0, [], _, _ => rfl
  | 0, _ :: _, _, h => by simp at h
  | n + 1, [], _, h => by simp at h
  | n + 1, x :: xs, hb, h => by
    have hx := hb x (by simp)
    have ih := by_le n xs (fun y hy => hb y (List.mem_cons_of_mem _ hy)) (by simpa using h)
    simp only [by', le]
    rw [show (x + 256 * le xs) % 256 = x by omega, show (x + 256 * le xs) / 256 = le xs by omega, ih]
theorem ps_app (n : Nat) (a r : List Int) (h : a.length = n) : ps n (a ++ r, 0) = (r, 0) := by
  unfold ps; rw [if_neg (by simp; omega)]; simp [← h]
theorem pa_app (n : Nat) (a r : List Int) (h : a.length = n) : pa n (a ++ r, 0) = a := by
  unfold pa; rw [if_neg (by simp; omega)]; simp [← h]
theorem num_app (m : Int) (n : Nat) (hm : m = (n : Int)) (x : Int) (r : List Int) (h1 : 1 ≤ n) (h4 : n ≤ 4) (h0 : 0 ≤ x) (h : x < 256 ^ n) : numS m (by' n x ++ r, 0) = (r, 0) ∧ numA m (by' n x ++ r, 0) = x := by
  subst hm
  unfold numS numA
  rw [if_pos (by omega), if_pos (by omega), Int.toNat_natCast, ps_app _ _ _ (by_length n x), pa_app _ _ _ (by_length n x), le_by n x h0 h]
  exact ⟨rfl, rfl⟩
theorem txt_app (b r : List Int) (h : b.length ≤ 255) : txtS ((b.length : Int) :: b ++ r, 0) = (r, 0) ∧ txtA ((b.length : Int) :: b ++ r, 0) = b := by
  have h1 := num_app 1 1 rfl b.length (b ++ r) (by omega) (by omega) (by omega) (by omega)
  have e : by' 1 (b.length : Int) = [(b.length : Int)] := by simp [by']; omega
  rw [e] at h1
  have e2 : ((b.length : Int) :: b ++ r, (0 : Int)) = ([(b.length : Int)] ++ (b ++ r), 0) := rfl
  rw [e2]
  unfold txtS txtA
  rw [h1.1, h1.2, Int.toNat_natCast, ps_app _ _ _ rfl, pa_app _ _ _ rfl]
  exact ⟨rfl, rfl⟩
theorem str_sb (s : ByteArray) : strOfNums (sb s) = s := by
  unfold strOfNums sb
  rw [List.map_map]
  have : ((fun n : Int => UInt8.ofNat n.toNat) ∘ fun b : UInt8 => (b.toNat : Int)) = id := by
    funext b; simp
  rw [this, List.map_id]
theorem sb_str {zs : List Int} (h : Bytes zs) : sb (strOfNums zs) = zs := by
  unfold sb
  rw [strOfNums_data, List.map_map]
  have : ∀ x ∈ zs, ((fun b : UInt8 => (b.toNat : Int)) ∘ fun n : Int => UInt8.ofNat n.toNat) x = x := fun x hx => by
    have := h x hx
    simp only [Function.comp, UInt8.toNat_ofNat']
    omega
  rw [List.map_congr_left this, List.map_id']
/-- P9.2: what was put is read as it was, and nothing is left. -/
theorem read_head {s : Rec} (h : s.may = true) (r : List Int) : z6 (headB s ++ r, 0) = (r, 0) ∧ headR (headB s ++ r, 0) = ⟨s.kind, s.mode, s.uid, s.gid, s.links, s.xattr, 0, 0, 0, 0, ⟨#[]⟩⟩ := by
  obtain ⟨hk, h1, h2, h3, h4, h5, h6⟩ := may_facts h
  have hk' := kinds hk
  have e1 := num_app 1 1 rfl s.kind (by' 2 s.mode ++ (by' 2 s.uid ++ (by' 2 s.gid ++ (by' 2 s.links ++ (by' 4 s.xattr ++ r))))) (by omega) (by omega) (by omega) (by omega)
  have e2 := num_app 2 2 rfl s.mode (by' 2 s.uid ++ (by' 2 s.gid ++ (by' 2 s.links ++ (by' 4 s.xattr ++ r)))) (by omega) (by omega) (by omega) (by omega)
  have e3 := num_app 2 2 rfl s.uid (by' 2 s.gid ++ (by' 2 s.links ++ (by' 4 s.xattr ++ r))) (by omega) (by omega) (by omega) (by omega)
  have e4 := num_app 2 2 rfl s.gid (by' 2 s.links ++ (by' 4 s.xattr ++ r)) (by omega) (by omega) (by omega) (by omega)
  have e5 := num_app 2 2 rfl s.links (by' 4 s.xattr ++ r) (by omega) (by omega) (by omega) (by omega)
  have e6 := num_app 4 4 rfl s.xattr r (by omega) (by omega) (by omega) (by omega)
  have eh : headB s ++ r = by' 1 s.kind ++ (by' 2 s.mode ++ (by' 2 s.uid ++ (by' 2 s.gid ++ (by' 2 s.links ++ (by' 4 s.xattr ++ r))))) := by simp [headB]
  rw [eh]
  unfold headR z6 z5 z4 z3 z2 z1
  rw [e1.1, e1.2, e2.1, e2.2, e3.1, e3.2, e4.1, e4.2, e5.1, e5.2, e6.1, e6.2]
  exact ⟨rfl, rfl⟩
theorem read_put {s : Rec} (h : s.may = true) : readR (putB s) = s ∧ readS (putB s) = ([], 0) := by
  obtain ⟨hk, h1, h2, h3, h4, h5, h6⟩ := may_facts h
  obtain ⟨eS, eR⟩ := read_head h (ownB s)
  have eK : numA 1 (putB s, 0) = s.kind := by
    have : (headR (headB s ++ ownB s, 0)).kind = s.kind := by rw [eR]
    exact this
  unfold readR readS
  rw [eK]
  unfold putB
  rw [eS, eR]
  unfold ownR ownS ownB
  obtain ⟨kind, mode, uid, gid, links, xattr, start, size, frag, off, target⟩ := s
  rcases kinds hk with hk | hk | hk
  · obtain ⟨d1, d2, d3, d4, d5, d6⟩ := dir_facts hk h6
    simp only at hk d1 d2 d3 d4 d5 d6 ⊢
    subst hk d4 d5 d6
    have e1 := num_app 4 4 rfl start (by' 4 size) (by omega) (by omega) (by omega) (by omega)
    have e2 := num_app 4 4 rfl size [] (by omega) (by omega) (by omega) (by omega)
    rw [List.append_nil] at e2
    simp only [if_true]
    rw [e1.1, e1.2, e2.1, e2.2]
    exact ⟨rfl, rfl⟩
  · obtain ⟨d1, d2, d3, d4, d5⟩ := file_facts hk h6
    simp only at hk d1 d2 d3 d4 d5 ⊢
    subst hk d5
    have e1 := num_app 4 4 rfl start (by' 2 size ++ (by' 2 frag ++ by' 1 off)) (by omega) (by omega) (by omega) (by omega)
    have e2 := num_app 2 2 rfl size (by' 2 frag ++ by' 1 off) (by omega) (by omega) (by omega) (by omega)
    have e3 := num_app 2 2 rfl frag (by' 1 off) (by omega) (by omega) (by omega) (by omega)
    have e4 := num_app 1 1 rfl off [] (by omega) (by omega) (by omega) (by omega)
    rw [List.append_nil] at e4
    rw [if_neg (by omega), if_pos rfl, if_neg (by omega), if_pos rfl, if_neg (by omega), if_pos rfl]
    rw [e1.1, e1.2, e2.1, e2.2, e3.1, e3.2, e4.1, e4.2]
    exact ⟨rfl, rfl⟩
  · obtain ⟨d1, d2, d3, d4, d5⟩ := link_facts hk h6
    simp only at hk d1 d2 d3 d4 d5 ⊢
    subst hk d2 d3 d4 d5
    have e1 := txt_app (sb target) [] (by rw [sb_length]; omega)
    rw [List.append_nil, sb_length] at e1
    rw [if_neg (by omega), if_neg (by omega), if_pos rfl, if_neg (by omega), if_neg (by omega), if_pos rfl, if_neg (by omega), if_neg (by omega), if_pos rfl, e1.1, e1.2, str_sb]
    exact ⟨rfl, rfl⟩
theorem good_put {s : Rec} (h : s.may = true) : good (putB s) = true := by
  obtain ⟨h1, h2⟩ := read_put h
  unfold good
  rw [h1, h2, h]; rfl

/-- Where no error is told there were bytes enough. -/
theorem num_ok (m : Int) (n : Nat) (hm : m = (n : Int)) {s : St} (h1 : 1 ≤ n) (h4 : n ≤ 4) (h : (numS m s).2 = 0) (hb : Bytes s.1) : s.2 = 0 ∧ s.1 = by' n (numA m s) ++ (numS m s).1 := by
  subst hm
  unfold numS numA at *
  rw [if_pos (by omega)] at h
  rw [if_pos (by omega), if_pos (by omega)]
  rw [Int.toNat_natCast] at *
  unfold ps pa at *
  by_cases hl : s.1.length < n
  · rw [if_pos hl] at h
    unfold fl at h
    split at h
    · simp at h
    · contradiction
  · rw [if_neg hl] at h
    rw [if_neg hl, if_neg hl, by_le n _ (hb.take n) (by simp; omega)]
    exact ⟨h, (List.take_append_drop n s.1).symm⟩
theorem num_bytes {n : Int} {s : St} (hb : Bytes s.1) : Bytes (numS n s).1 := by
  unfold numS ps fl
  repeat' split
  all_goals first | exact Bytes.nil | exact hb | exact hb.drop _
theorem txt_ok {s : St} (h : (txtS s).2 = 0) (hb : Bytes s.1) : s.2 = 0 ∧ s.1 = ((txtA s).length : Int) :: txtA s ++ (txtS s).1 := by
  unfold txtS txtA at *
  have hn : (numS 1 s).2 = 0 := by
    unfold ps at h
    split at h
    · unfold fl at h; split at h; (simp at h); contradiction
    · exact h
  have h1 := num_ok 1 1 rfl (by omega) (by omega) hn hb
  have hq := numA_bound 1 s hb
  refine ⟨h1.1, ?_⟩
  unfold ps pa at *
  by_cases hl : (numS 1 s).1.length < (numA 1 s).toNat
  · rw [if_pos hl] at h
    unfold fl at h
    split at h
    · simp at h
    · contradiction
  · rw [if_neg hl, if_neg hl]
    have e : ((List.take (numA 1 s).toNat (numS 1 s).1).length : Int) = numA 1 s := by simp; omega
    have h2 : s.1 = by' 1 (numA 1 s) ++ (numS 1 s).1 := h1.2
    have e3 : by' 1 (numA 1 s) = [numA 1 s] := by
      have h3 : by' 1 (numA 1 s) = s.1.take 1 := by rw [h2]; simp [by_length]
      have h4 : le (by' 1 (numA 1 s)) = le (s.1.take 1) := by rw [h3]
      unfold numA at hq ⊢
      rw [if_pos (by omega)] at hq ⊢
      have hb1 : le (pa (1 : Int).toNat s) < 256 := by
        have : Bytes (pa (1 : Int).toNat s) := by unfold pa; split; exact Bytes.nil; exact hb.take _
        have h5 := (le_bound this).2
        have h6 : (pa (1 : Int).toNat s).length ≤ 1 := by unfold pa; split; simp; simp; omega
        have h7 := pow256 h6
        omega
      simp only [by']
      congr 1
      omega
    rw [e]
    conv => lhs; rw [h2, e3]
    simp
theorem end_ok {s : St} (h : (endS s).2 = 0) : s = ([], 0) := by
  unfold endS at h
  by_cases hl : 0 < s.1.length
  · rw [if_pos hl] at h
    unfold fl at h
    split at h
    · simp at h
    · contradiction
  · rw [if_neg hl] at h
    have h2 : s.1 = [] := List.eq_nil_of_length_eq_zero (by omega)
    obtain ⟨a, b⟩ := s
    simp only at h h2
    rw [h, h2]
/-- What is read without an error is put as it stood. -/
theorem head_ok {zs : List Int} (hb : Bytes zs) (h : (z6 (zs, 0)).2 = 0) : zs = headB (headR (zs, 0)) ++ (z6 (zs, 0)).1 := by
  unfold headR headB z6 z5 z4 z3 z2 z1 at *
  have b1 : Bytes (numS 1 (zs, 0)).1 := num_bytes hb
  have b2 : Bytes (numS 2 (numS 1 (zs, 0))).1 := num_bytes b1
  have b3 : Bytes (numS 2 (numS 2 (numS 1 (zs, 0)))).1 := num_bytes b2
  have b4 : Bytes (numS 2 (numS 2 (numS 2 (numS 1 (zs, 0))))).1 := num_bytes b3
  have b5 : Bytes (numS 2 (numS 2 (numS 2 (numS 2 (numS 1 (zs, 0)))))).1 := num_bytes b4
  have k6 := num_ok 4 4 rfl (by omega) (by omega) h b5
  have k5 := num_ok 2 2 rfl (by omega) (by omega) k6.1 b4
  have k4 := num_ok 2 2 rfl (by omega) (by omega) k5.1 b3
  have k3 := num_ok 2 2 rfl (by omega) (by omega) k4.1 b2
  have k2 := num_ok 2 2 rfl (by omega) (by omega) k3.1 b1
  have k1 := num_ok 1 1 rfl (by omega) (by omega) k2.1 hb
  have q1 := k1.2
  have q2 := k2.2
  have q3 := k3.2
  have q4 := k4.2
  have q5 := k5.2
  have q6 := k6.2
  simp only [List.append_assoc]
  rw [← q6, ← q5, ← q4, ← q3, ← q2]
  exact q1
theorem z6_bytes {zs : List Int} (hb : Bytes zs) : Bytes (z6 (zs, 0)).1 := num_bytes (num_bytes (num_bytes (num_bytes (num_bytes (num_bytes hb)))))
theorem headB_own (r : Rec) (s : St) : headB (ownR r s) = headB r := by unfold ownR; split; rfl; split; rfl; split; rfl; rfl
theorem put_read {zs : List Int} (hb : Bytes zs) (hk : isKind (numA 1 (zs, 0)) = true) (h : (endS (readS zs)).2 = 0) : putB (readR zs) = zs := by
  have he := end_ok h
  have b6 := z6_bytes hb
  unfold readS ownS at he
  have kk : (headR (zs, 0)).kind = numA 1 (zs, 0) := rfl
  unfold putB readR
  rw [headB_own]
  rcases kinds hk with hk | hk | hk
  · rw [if_pos hk] at he
    have e0 : (numS 4 (numS 4 (z6 (zs, 0)))).2 = 0 := by rw [he]
    have k2 := num_ok 4 4 rfl (by omega) (by omega) e0 (num_bytes b6)
    have k1 := num_ok 4 4 rfl (by omega) (by omega) k2.1 b6
    conv => rhs; rw [head_ok hb k1.1]
    refine congrArg (fun t => headB (headR (zs, 0)) ++ t) ?_
    unfold ownB
    rw [ownR_kind, kk, if_pos hk]
    unfold ownR
    rw [kk, if_pos hk]
    have q1 := k1.2
    have q2 := k2.2
    rw [he] at q2
    rw [List.append_nil] at q2
    rw [q1, q2]
  · rw [if_neg (by omega), if_pos hk] at he
    have e0 : (numS 1 (numS 2 (numS 2 (numS 4 (z6 (zs, 0)))))).2 = 0 := by rw [he]
    have b1 : Bytes (numS 4 (z6 (zs, 0))).1 := num_bytes b6
    have b2 : Bytes (numS 2 (numS 4 (z6 (zs, 0)))).1 := num_bytes b1
    have b3 : Bytes (numS 2 (numS 2 (numS 4 (z6 (zs, 0))))).1 := num_bytes b2
    have k4 := num_ok 1 1 rfl (by omega) (by omega) e0 b3
    have k3 := num_ok 2 2 rfl (by omega) (by omega) k4.1 b2
    have k2 := num_ok 2 2 rfl (by omega) (by omega) k3.1 b1
    have k1 := num_ok 4 4 rfl (by omega) (by omega) k2.1 b6
    conv => rhs; rw [head_ok hb k1.1]
    refine congrArg (fun t => headB (headR (zs, 0)) ++ t) ?_
    unfold ownB
    rw [ownR_kind, kk, if_neg (by omega), if_pos hk]
    unfold ownR
    rw [kk, if_neg (by omega), if_pos hk]
    have q1 := k1.2
    have q2 := k2.2
    have q3 := k3.2
    have q4 := k4.2
    rw [he] at q4
    rw [List.append_nil] at q4
    rw [q1, q2, q3, q4]
  · rw [if_neg (by omega), if_neg (by omega), if_pos hk] at he
    have e0 : (txtS (z6 (zs, 0))).2 = 0 := by rw [he]
    have k1 := txt_ok e0 b6
    conv => rhs; rw [head_ok hb k1.1]
    refine congrArg (fun t => headB (headR (zs, 0)) ++ t) ?_
    unfold ownB
    rw [ownR_kind, kk, if_neg (by omega), if_neg (by omega), if_pos hk]
    unfold ownR
    rw [kk, if_neg (by omega), if_neg (by omega), if_pos hk]
    have q1 := k1.2
    rw [he] at q1
    rw [List.append_nil] at q1
    have hbt : Bytes (txtA (z6 (zs, 0))) := by
      intro x hx
      refine b6 x ?_
      rw [q1]
      exact List.mem_cons_of_mem _ hx
    rw [strOfNums_size, sb_str hbt]
    exact q1.symm
/-- What is taken is just what was put. -/
theorem good_iff {zs : List Int} (hb : Bytes zs) : good zs = true ↔ (readR zs).may = true ∧ putB (readR zs) = zs := by
  constructor
  · intro h
    unfold good at h
    simp only [Bool.and_eq_true, decide_eq_true_eq] at h
    have hk := kind_may h.1
    rw [readR_kind] at hk
    exact ⟨h.1, put_read hb hk h.2⟩
  · rintro ⟨h1, h2⟩
    have := good_put h1
    rwa [h2] at this
/-- Bytes that begin as a record's, but are more or fewer, are none's. -/
theorem good_long {zs : List Int} (hb : Bytes zs) (h : good zs = true) : zs.length = long zs := by
  obtain ⟨h1, h2⟩ := (good_iff hb).1 h
  have := putB_long h1
  rwa [h2] at this
theorem cut_not {s : Rec} (h : s.may = true) : good ((putB s).take ((putB s).length - 1)) = false := by
  have hl := putB_least h
  cases hg : good ((putB s).take ((putB s).length - 1)) with
  | false => rfl
  | true =>
    have h1 := good_long ((putB_bytes h).take _) hg
    rw [long_take (ys := putB s) (by rw [List.take_take]; congr 1; omega), ← putB_long h] at h1
    simp at h1
    omega
theorem more_not {s : Rec} (h : s.may = true) : good (putB s ++ [0]) = false := by
  have hl := putB_least h
  cases hg : good (putB s ++ [0]) with
  | false => rfl
  | true =>
    have h1 := good_long ((putB_bytes h).append (fun x hx => by simp at hx; omega)) hg
    rw [long_take (ys := putB s) (by rw [List.take_append_of_le_length (by omega)]), ← putB_long h] at h1
    simp at h1
end Go.Proofs.Ytmhgjilpgbkaaaa.Ino

/- MetJoin: MetPure, MetOwn, MetWrite, MetAdd, MetReader, MetOpen, MetTake, MetMiss, MetPart, MetRead, as one text. -/
import Derived.Test.YtgkclldiphcogaaFrmJoin
import Derived.ArgAppend
import Derived.Deep.MidRow
import Derived.Deep.Upon
import Derived.Deep.RegionLaw
import Derived.Maps.OwnSet
import Derived.Stop.BytesEq
import Derived.Deep.QuietTactic
import Derived.Deep.RegionHeld3

/- Rows of bytes in frames, as pure functions: the frames of what was added, refs, what is read at a ref. -/
namespace Go.Proofs.Ytgkclldiphcogaa.Mtr
set_option linter.unusedVariables false
open Lz (g pack unpack up)
open Crc (ent more)
open Cur (le by')
open Frm

/-- The block k of a row. -/
def blk (z : List Int) (k : Nat) : List Int := (z.drop (128 * k)).take 128
theorem blk_length (z : List Int) (k : Nat) : (blk z k).length = min 128 (z.length - 128 * k) := by simp [blk]
theorem blk_le (z : List Int) (k : Nat) : (blk z k).length ≤ 128 := by rw [blk_length]; omega
theorem blk_bytes {z : List Int} (h : Bytes z) (k : Nat) : Bytes (blk z k) := (h.drop _).take _
theorem blk_append (z y : List Int) (k : Nat) (h : 128 * (k + 1) ≤ z.length) : blk (z ++ y) k = blk z k := by
  unfold blk
  rw [List.drop_append_of_le_length (by omega), List.take_append_of_le_length (by simp; omega)]
/-- The frames of the first k blocks. -/
def fr (T : Nat → Nat) (z : List Int) : Nat → List Int
  | 0 => []
  | k + 1 => fr T z k ++ put T (blk z k)
theorem fr_zero (T : Nat → Nat) (z : List Int) : fr T z 0 = [] := rfl
theorem fr_succ (T : Nat → Nat) (z : List Int) (k : Nat) : fr T z (k + 1) = fr T z k ++ put T (blk z k) := rfl
theorem fr_append (T : Nat → Nat) (z y : List Int) : ∀ k, 128 * k ≤ z.length → fr T (z ++ y) k = fr T z k
  | 0, _ => rfl
  | k + 1, h => by rw [fr_succ, fr_succ, fr_append T z y k (by omega), blk_append z y k h]
theorem fr_split (T : Nat → Nat) (z : List Int) (j : Nat) : ∀ k, j < k → ∃ Z, fr T z k = fr T z j ++ (put T (blk z j) ++ Z)
  | 0, h => by omega
  | k + 1, h => by
    by_cases e : j = k
    · subst e; exact ⟨[], by rw [fr_succ, List.append_nil]⟩
    · obtain ⟨Z, hZ⟩ := fr_split T z j k (by omega)
      exact ⟨Z ++ put T (blk z k), by rw [fr_succ, hZ]; simp [List.append_assoc]⟩
theorem fr_length (T : Nat → Nat) (z : List Int) : ∀ k, (fr T z k).length ≤ 135 * k
  | 0 => by simp [fr]
  | k + 1 => by
    have := fr_length T z k
    have := (put_length (T := T) (blk_le z k)).2.2
    rw [fr_succ, List.length_append]; omega
theorem fr_lt (T : Nat → Nat) (z : List Int) (k : Nat) : (fr T z k).length + 3 ≤ (fr T z (k + 1)).length := by
  have := (put_length (T := T) (blk_le z k)).1
  rw [fr_succ, List.length_append]; omega
theorem fr_bytes (T : Nat → Nat) {z : List Int} (h : Bytes z) : ∀ k, Bytes (fr T z k)
  | 0 => Bytes.nil
  | k + 1 => (fr_bytes T h k).append (put_bytes (blk_bytes h k))
/-- What is not framed yet. -/
def rest (z : List Int) : List Int := z.drop (128 * (z.length / 128))
theorem rest_length (z : List Int) : (rest z).length = z.length % 128 := by unfold rest; rw [List.length_drop]; omega
theorem rest_blk (z : List Int) : blk z (z.length / 128) = rest z := by
  have := rest_length z
  unfold blk; rw [List.take_of_length_le]
  · rfl
  · unfold rest at this; omega
/-- The frames of all. -/
def done (T : Nat → Nat) (z : List Int) : List Int := fr T z ((z.length + 127) / 128)
theorem done_full (T : Nat → Nat) {z : List Int} (h : rest z = []) : done T z = fr T z (z.length / 128) := by
  have h1 := rest_length z
  rw [h] at h1
  simp at h1
  unfold done; rw [show (z.length + 127) / 128 = z.length / 128 by omega]
theorem done_part (T : Nat → Nat) {z : List Int} (h : rest z ≠ []) : done T z = fr T z (z.length / 128) ++ put T (rest z) := by
  have h1 := rest_length z
  have h2 : 0 < (rest z).length := List.length_pos_iff.2 h
  unfold done; rw [show (z.length + 127) / 128 = z.length / 128 + 1 by omega, fr_succ, rest_blk]
theorem done_bytes (T : Nat → Nat) {z : List Int} (h : Bytes z) : Bytes (done T z) := fr_bytes T h _
theorem done_length (T : Nat → Nat) (z : List Int) : (done T z).length ≤ 135 * ((z.length + 127) / 128) := fr_length T z _
/-- The ref of the byte j. -/
def rf (T : Nat → Nat) (z : List Int) (j : Nat) : Int := 256 * ((fr T z (j / 128)).length : Nat) + ((j % 128 : Nat) : Int)
theorem rf_bd (T : Nat → Nat) (z : List Int) (j : Nat) : 0 ≤ rf T z j ∧ rf T z j ≤ 256 * (135 * (j / 128 : Nat)) + 128 := by
  have := fr_length T z (j / 128)
  unfold rf; omega
theorem rf_append (T : Nat → Nat) (z y : List Int) (j : Nat) (h : j ≤ z.length) : rf T (z ++ y) j = rf T z j := by
  unfold rf; rw [fr_append T z y _ (by omega)]
theorem rf_zero (T : Nat → Nat) (z : List Int) : rf T z 0 = 0 := rfl
/-- The part that the frame of a ref has, and the ref behind it. -/
def pt (T : Nat → Nat) (X : List Int) (ref : Int) (n : Nat) : Option (List Int × Int) :=
  if (take T X (ref / 256)).2.2 ≠ 0 ∨ ((take T X (ref / 256)).1.length : Int) ≤ ref % 256 then none
  else some (((take T X (ref / 256)).1.drop (ref % 256).toNat).take n,
    if ref % 256 + (min n ((take T X (ref / 256)).1.length - (ref % 256).toNat) : Nat) = 128 then 256 * (take T X (ref / 256)).2.1 else 256 * (ref / 256) + (ref % 256 + (min n ((take T X (ref / 256)).1.length - (ref % 256).toNat) : Nat)))
/-- What is read, n bytes from a ref on, and the ref behind it. -/
def rdF (T : Nat → Nat) (X : List Int) : Nat → Int → Nat → Option (List Int × Int)
  | 0, ref, n => if n = 0 then some ([], ref) else none
  | f + 1, ref, n => if n = 0 then some ([], ref) else
    match pt T X ref n with
    | none => none
    | some (p, nx) => (rdF T X f nx (n - p.length)).map fun q => (p ++ q.1, q.2)
theorem rdF_zero (T : Nat → Nat) (X : List Int) (f : Nat) (ref : Int) : rdF T X f ref 0 = some ([], ref) := by cases f <;> simp [rdF]
theorem rdF_none {T : Nat → Nat} {X : List Int} {f : Nat} {ref : Int} {n : Nat} (hn : n ≠ 0) (h : pt T X ref n = none) : rdF T X (f + 1) ref n = none := by simp [rdF, hn, h]
theorem rdF_some {T : Nat → Nat} {X : List Int} {f : Nat} {ref : Int} {n : Nat} {p : List Int} {nx : Int} (hn : n ≠ 0) (h : pt T X ref n = some (p, nx)) : rdF T X (f + 1) ref n = (rdF T X f nx (n - p.length)).map fun q => (p ++ q.1, q.2) := by simp [rdF, hn, h]
def rd (T : Nat → Nat) (X : List Int) (ref : Int) (n : Nat) : Option (List Int × Int) := rdF T X n ref n

theorem up_len (most : Int) (hm : 0 ≤ most) : ∀ (f : Nat) (b out : List Int), (∀ i, 0 ≤ g b i) → (out.length : Int) ≤ most → ((Lz.upF most f b out).1.length : Int) ≤ most
  | 0, b, out, _, h => h
  | f + 1, b, out, hb, h => by
    rw [Lz.upF_succ]
    have h0 := hb 0
    split
    · exact h
    · split
      · split
        · simpa using hm
        · split
          · simpa using hm
          · refine up_len most hm f _ _ (fun i => by rw [Lz.g_drop]; exact hb _) ?_
            simp; omega
      · split
        · simpa using hm
        · split
          · simpa using hm
          · refine up_len most hm f _ _ (fun i => by rw [Lz.g_drop]; exact hb _) ?_
            rw [Lz.cp_length]; omega
theorem take_len (T : Nat → Nat) {z : List Int} (h : Bytes z) (at' : Int) : (take T z at').1.length ≤ 128 := by
  unfold take
  split
  · simp
  · rename_i n sz hsp
    obtain ⟨s1, s2, s3, s4, s5⟩ := spot_some hsp
    have hb := bsz_bd n
    have hl := body_length s2
    have hbb : Bytes (body z at'.toNat sz) := (h.drop _).take _
    split
    · simp
    · split
      · simp
      · show (plain T n (body z at'.toNat sz)).length ≤ 128
        unfold plain
        split
        · simp
        · split
          · simp; omega
          · unfold Lz.unpack Lz.up
            rw [if_neg (by omega)]
            have := up_len 128 (by omega) ((body z at'.toNat sz).drop 4).length ((body z at'.toNat sz).drop 4) [] (fun i => ((hbb.drop 4).g i).1) (by simp)
            omega
theorem take_next {T : Nat → Nat} {z : List Int} {at' : Int} (h : (take T z at').2.2 = 0) : 0 ≤ at' ∧ at' < (take T z at').2.1 ∧ (take T z at').2.1 ≤ z.length := by
  unfold take at h ⊢
  split
  · rename_i hsp; rw [hsp] at h; simp at h
  · rename_i n sz hsp
    rw [hsp] at h
    obtain ⟨s1, s2, s3, s4, s5⟩ := spot_some hsp
    split
    · rename_i h0; exact ⟨s1, by simp only []; omega, by simp only []; omega⟩
    · rename_i h0
      simp only [h0, if_false] at h
      split
      · rename_i h1; rw [if_pos h1] at h; simp at h
      · exact ⟨s1, by simp only []; omega, by simp only []; omega⟩
theorem take_err (T : Nat → Nat) (z : List Int) (at' : Int) : (take T z at').2.2 = 0 ∨ take T z at' = ([], 0, 2) := by
  unfold take
  split
  · exact .inr rfl
  · split
    · exact .inl rfl
    · split
      · exact .inr rfl
      · exact .inl rfl
theorem skip_next {z : List Int} {at' : Int} : (skip z at' = (0, 2)) ∨ ((skip z at').2 = 0 ∧ 0 ≤ at' ∧ at' < (skip z at').1 ∧ (skip z at').1 ≤ z.length) := by
  unfold skip
  split
  · exact .inl rfl
  · rename_i n sz hsp
    obtain ⟨s1, s2, s3, s4, s5⟩ := spot_some hsp
    exact .inr ⟨rfl, s1, by simp only []; omega, by simp only []; omega⟩
theorem pt_bd {T : Nat → Nat} {X : List Int} (hX : Bytes X) {ref : Int} {n : Nat} (hr : 0 ≤ ref) (hn : 0 < n) {p : List Int} {nx : Int} (h : pt T X ref n = some (p, nx)) : 1 ≤ p.length ∧ p.length ≤ n ∧ p.length ≤ 128 ∧ Bytes p ∧ 0 ≤ nx ∧ nx ≤ 256 * X.length + 256 := by
  unfold pt at h
  have hl := take_len T hX (ref / 256)
  split at h
  · simp at h
  · rename_i hc
    have hc' := not_or.1 hc
    have h0 : (take T X (ref / 256)).2.2 = 0 := Decidable.not_not.1 hc'.1
    obtain ⟨t1, t2, t3⟩ := take_next h0
    have hnum := hc'.2
    have hby : Bytes (take T X (ref / 256)).1 := by
      unfold take
      split
      · exact Bytes.nil
      · split
        · exact Bytes.nil
        · split
          · exact Bytes.nil
          · rename_i n sz hsp _ _
            show Bytes (plain T n (body X (ref / 256).toNat sz))
            have hbb : Bytes (body X (ref / 256).toNat sz) := (hX.drop _).take _
            unfold plain
            split
            · exact Bytes.nil
            · split
              · exact hbb.drop 4
              · exact (hbb.drop 4).unpack 128
    generalize take T X (ref / 256) = t at *
    simp only [Option.some.injEq, Prod.mk.injEq] at h
    obtain ⟨h1, h2⟩ := h
    subst h1 h2
    refine ⟨by simp; omega, by simp; omega, by simp; omega, (hby.drop _).take _, ?_, ?_⟩
    · split <;> omega
    · split <;> omega

/-- A byte that was added, and those behind it: what the frame has of them. -/
theorem pt_row {T : Nat → Nat} (hS : Small T) (z : List Int) (j n : Nat) (hn : 0 < n) (hj : j + n ≤ z.length) :
    ∃ m, 1 ≤ m ∧ m ≤ n ∧ pt T (done T z) (rf T z j) n = some ((z.drop j).take m, rf T z (j + m)) := by
  obtain ⟨Z, hZ⟩ := fr_split T z (j / 128) ((z.length + 127) / 128) (by omega)
  have hT := (take_put hS (blk_le z (j / 128)) (fr T z (j / 128)) Z).1
  rw [← hZ] at hT
  have e1 : rf T z j / 256 = ((fr T z (j / 128)).length : Nat) := by unfold rf; omega
  have e2 : rf T z j % 256 = ((j % 128 : Nat) : Int) := by unfold rf; omega
  have hbl := blk_length z (j / 128)
  have hm : min n ((blk z (j / 128)).length - j % 128) = min n (128 - j % 128) ∨ (min n ((blk z (j / 128)).length - j % 128) = n) := by omega
  refine ⟨min n ((blk z (j / 128)).length - j % 128), by omega, by omega, ?_⟩
  unfold pt done
  rw [e1, e2, hT]
  simp only [Int.toNat_natCast]
  rw [if_neg (by simp; omega)]
  congr 1
  refine Prod.ext ?_ ?_
  · show ((blk z (j / 128)).drop (j % 128)).take n = _
    unfold blk
    rw [List.drop_take, List.drop_drop, List.take_take, show 128 * (j / 128) + j % 128 = j by omega]
    rw [List.take_eq_take_iff]
    simp
    omega
  · show (if _ then _ else _) = _
    have hp : ((fr T z (j / 128)).length + (put T (blk z (j / 128))).length) = (fr T z (j / 128 + 1)).length := by rw [fr_succ, List.length_append]
    rw [hp]
    generalize hmm : min n ((blk z (j / 128)).length - j % 128) = m at *
    have hm128 : m ≤ 128 - j % 128 := by omega
    by_cases h : j % 128 + m = 128
    · rw [if_pos (by omega)]
      unfold rf
      rw [show (j + m) / 128 = j / 128 + 1 by omega, show (j + m) % 128 = 0 by omega]; simp
    · rw [if_neg (by omega)]
      unfold rf
      rw [show (j + m) / 128 = j / 128 by omega, show (j + m) % 128 = j % 128 + m by omega]
      omega
/-- What was added is read. -/
theorem rd_row {T : Nat → Nat} (hS : Small T) (z : List Int) : ∀ (f j n : Nat), n ≤ f → j + n ≤ z.length → rdF T (done T z) f (rf T z j) n = some ((z.drop j).take n, rf T z (j + n))
  | 0, j, n, hf, hj => by
    obtain rfl : n = 0 := by omega
    rw [rdF_zero]; simp
  | f + 1, j, n, hf, hj => by
    by_cases hn : n = 0
    · subst hn; rw [rdF_zero]; simp
    · obtain ⟨m, h1, h2, h3⟩ := pt_row hS z j n (by omega) hj
      have hl : ((z.drop j).take m).length = m := by simp; omega
      rw [rdF_some hn h3, hl, rd_row hS z f (j + m) (n - m) (by omega) (by omega)]
      simp only [Option.map_some]
      congr 1
      refine Prod.ext ?_ ?_
      · show (z.drop j).take m ++ (z.drop (j + m)).take (n - m) = _
        rw [← List.drop_drop, ← List.take_add, show m + (n - m) = n by omega]
      · show rf T z (j + m + (n - m)) = _
        rw [show j + m + (n - m) = j + n by omega]
theorem spot_end (X : List Int) : spot X X.length = none := by unfold spot; rw [if_pos (.inr (by omega))]
/-- Behind all there is nothing. -/
theorem rd_end {T : Nat → Nat} (hS : Small T) (z : List Int) : pt T (done T z) (rf T z z.length) 1 = none := by
  have e1 : rf T z z.length / 256 = ((fr T z (z.length / 128)).length : Nat) := by unfold rf; omega
  have e2 : rf T z z.length % 256 = ((z.length % 128 : Nat) : Int) := by unfold rf; omega
  unfold pt
  rw [e1, e2]
  by_cases h : z.length % 128 = 0
  · have hd : done T z = fr T z (z.length / 128) := by unfold done; rw [show (z.length + 127) / 128 = z.length / 128 by omega]
    have : take T (done T z) ((fr T z (z.length / 128)).length : Nat) = ([], 0, 2) := by
      unfold take; rw [hd, spot_end]
    rw [this]; simp
  · obtain ⟨Z, hZ⟩ := fr_split T z (z.length / 128) ((z.length + 127) / 128) (by omega)
    have hT := (take_put hS (blk_le z (z.length / 128)) (fr T z (z.length / 128)) Z).1
    rw [← hZ] at hT
    have hbl := blk_length z (z.length / 128)
    unfold done
    rw [hT]
    rw [if_pos (.inr (by show ((blk z (z.length / 128)).length : Int) ≤ _; omega))]
/-- A frame is passed. -/
theorem skip_row {T : Nat → Nat} (hS : Small T) (z : List Int) (k : Nat) (hk : k < (z.length + 127) / 128) : skip (done T z) ((fr T z k).length : Nat) = ((((fr T z (k + 1)).length : Nat) : Int), 0) := by
  obtain ⟨Z, hZ⟩ := fr_split T z k ((z.length + 127) / 128) hk
  have hT := (take_put hS (blk_le z k) (fr T z k) Z).2
  rw [← hZ] at hT
  unfold done
  rw [hT, fr_succ, List.length_append]
theorem skip_end (T : Nat → Nat) (z : List Int) : skip (done T z) ((fr T z ((z.length + 127) / 128)).length : Nat) = (0, 2) := by
  unfold skip
  have : spot (done T z) ((fr T z ((z.length + 127) / 128)).length : Nat) = none := spot_end (done T z)
  rw [this]
end Go.Proofs.Ytgkclldiphcogaa.Mtr

/- A row of bytes of the call's own that does not begin at its block's head ('rest = rest[128:]'): what it is, that it is cut, and that bytes are appended to it. -/
namespace Go.Proofs.Ytgkclldiphcogaa
set_option linter.unusedVariables false
open Go.RowKit Go.Maps
open Lz (g)
open Frm

theorem heap_setCells_self {p : Nat} {t : TypeId} {fz : Nat × Nat} : ∀ (vs : List Value) (o : Nat) (w : World) (cur : Array Value), w.heap[p]? = some (.cells cur t fz) → ∃ cur', (w.setCells p o vs).heap[p]? = some (.cells cur' t fz)
  | [], _, _, cur, h => ⟨cur, h⟩
  | v :: r, o, w, cur, h => heap_setCells_self r (o + 1) _ _ (heap_setCell_self h v)
theorem size_setCells (b : Nat) : ∀ (vs : List Value) (o : Nat) (w : World), (w.setCells b o vs).heap.size = w.heap.size
  | [], _, _ => rfl
  | v :: r, o, w => by rw [World.setCells, size_setCells b r (o + 1)]; simp [World.setCell]
theorem setCells_other (b : Nat) : ∀ (vs : List Value) (o : Nat) (w : World) (k : Nat), k ≠ b → (w.setCells b o vs).heap[k]? = w.heap[k]?
  | [], _, _, _, _ => rfl
  | v :: r, o, w, k, h => by rw [World.setCells, setCells_other b r (o + 1) _ k h, Below.heap_setCell _ _ _ _ h]
theorem setCells_tape (b : Nat) : ∀ (vs : List Value) (o : Nat) (w : World), (w.setCells b o vs).tape = w.tape
  | [], _, _ => rfl
  | v :: r, o, w => by rw [World.setCells, setCells_tape b r (o + 1)]; simp [World.setCell]
theorem grown_setCells (w : World) (b o : Nat) (vs : List Value) : w.grownBy (w.setCells b o vs) (some b) :=
  ⟨World.os_setCells w b o vs, setCells_tape b vs o w, World.output_setCells w b o vs, by rw [size_setCells]; exact Nat.le_refl _, fun k _ hk => setCells_other b vs o w k (fun e => hk (by rw [e]))⟩
theorem Fr.of_setCells (S : Nat → Prop) (w : World) (b o : Nat) (vs : List Value) (h : S b) : Fr S w (w.setCells b o vs) :=
  Fr.of_grown (grown_setCells w b o vs) (fun k hk => by cases hk; exact h)

/-- A row of the call's own, wherever in its block it begins. -/
def Rw (w : World) (B : Nat) (ao : Option Addr) (n c : Nat) (zs : List Int) : Prop :=
  zs.length = n ∧ Bytes zs ∧ n ≤ c ∧ c ≤ maxLen ∧ ((ao = none ∧ c = 0) ∨ ∃ gb off, ao = some ⟨gb, off, none⟩ ∧ B ≤ gb ∧ (∃ cur, w.heap[gb]? = some (.cells cur 5 (0, 0))) ∧
    (∀ i, i < n → w.cell? ⟨gb, off + i, none⟩ = some (.int .u8 (g zs i))) ∧ ∀ i, i < c → (w.cell? ⟨gb, off + i, none⟩).isSome = true)
theorem Rw.none (w : World) (B : Nat) : Rw w B none 0 0 [] := ⟨rfl, Bytes.nil, Nat.le_refl _, Nat.zero_le _, .inl ⟨rfl, rfl⟩⟩
theorem Rw.bs {w : World} {B n c : Nat} {ao : Option Addr} {zs : List Int} (h : Rw w B ao n c zs) : Bs w ao n zs := by
  obtain ⟨h1, h2, h3, h4, h5⟩ := h
  refine ⟨h1, h2.g, ?_⟩
  rcases h5 with ⟨_, h5⟩ | ⟨gb, off, h5, h6, ⟨cur, h7⟩, h8, h9⟩
  · exact .inl (by omega)
  · exact .inr ⟨gb, off, h5, heap_lt h7, fun i hi => h8 i (by omega)⟩
theorem Rw.nil {w : World} {B n c : Nat} {ao : Option Addr} {zs : List Int} (h : Rw w B ao n c zs) : ao = Option.none → c = 0 := by
  intro e
  rcases h.2.2.2.2 with ⟨_, h5⟩ | ⟨gb, off, h5, _⟩
  · exact h5
  · rw [e] at h5; simp at h5
theorem Rw.own {w : World} {B n c : Nat} {ao : Option Addr} {zs : List Int} (h : Rw w B ao n c zs) {k : Nat} (hk : (Value.slice ao n c).ownBlock = some k) : B ≤ k ∧ k < w.heap.size ∧ ∃ cur, w.heap[k]? = some (.cells cur 5 (0, 0)) := by
  rcases h.2.2.2.2 with ⟨rfl, _⟩ | ⟨gb, off, rfl, h6, h7, _⟩
  · simp [Value.ownBlock] at hk
  · simp [Value.ownBlock] at hk
    subst hk
    obtain ⟨cur, h7⟩ := h7
    exact ⟨h6, heap_lt h7, cur, h7⟩
theorem Rw.fr {S : Nat → Prop} {w w' : World} {B n c : Nat} {ao : Option Addr} {zs : List Int} (h : Rw w B ao n c zs) (hf : Fr S w w') (hn : ∀ k, (Value.slice ao n c).ownBlock = some k → ¬ S k) : Rw w' B ao n c zs := by
  obtain ⟨h1, h2, h3, h4, h5⟩ := h
  refine ⟨h1, h2, h3, h4, ?_⟩
  rcases h5 with h5 | ⟨gb, off, rfl, h6, ⟨cur, h7⟩, h8, h9⟩
  · exact .inl h5
  · have hlt := heap_lt h7
    have hb := hf.block gb hlt (hn gb rfl)
    refine .inr ⟨gb, off, rfl, h6, ⟨cur, hb.trans h7⟩, fun i hi => (World.cell?_of_block (w := w) (a := ⟨gb, off + i, Option.none⟩) hb).trans (h8 i hi), fun i hi => ?_⟩
    rw [World.cell?_of_block (w := w) (a := ⟨gb, off + i, Option.none⟩) hb]; exact h9 i hi
theorem Rw.of_owns {w : World} {B n c : Nat} {ao : Option Addr} {zs : List Int} (h : w.ownsRow B 5 1 (.slice ao n c) n (bv zs)) (hb : Bytes zs) : Rw w B ao n c zs := by
  have hlen : zs.length = n := by have := h.1; rw [bv_length] at this; omega
  have h0 := h
  rcases h.2 with ⟨e, _⟩ | ⟨gb, cap, cur, e, h1, h2, h3, h4, h5, h6⟩
  · simp at e
    obtain ⟨rfl, rfl, rfl⟩ := e
    exact ⟨hlen, hb, Nat.le_refl _, Nat.zero_le _, .inl ⟨rfl, rfl⟩⟩
  · simp at e
    obtain ⟨rfl, rfl⟩ := e
    refine ⟨hlen, hb, h3, h4, .inr ⟨gb, 0, rfl, h1, ⟨cur, h2⟩, fun i hi => ?_, fun i hi => ?_⟩⟩
    · rw [Nat.zero_add, h0.cellAt i (by omega)]
      unfold bv
      rw [List.getElem?_map, List.getElem?_eq_getElem (by omega), Lz.g_lt _ _ (by omega)]; rfl
    · rw [Nat.zero_add, cell_of_row _ _ i _ _ _ h2]
      rw [Array.getElem?_eq_getElem (by omega)]; rfl
theorem Rw.mono {w : World} {B B' n c : Nat} {ao : Option Addr} {zs : List Int} (h : Rw w B ao n c zs) (hb : B' ≤ B) : Rw w B' ao n c zs := by
  obtain ⟨h1, h2, h3, h4, h5⟩ := h
  refine ⟨h1, h2, h3, h4, ?_⟩
  rcases h5 with h5 | ⟨gb, off, rfl, h6, h7⟩
  · exact .inl h5
  · exact .inr ⟨gb, off, rfl, Nat.le_trans hb h6, h7⟩
/-- The rest of it. -/
theorem Rw.drop {w : World} {B n c : Nat} {ao : Option Addr} {zs : List Int} (h : Rw w B ao n c zs) (k : Nat) (hk : k ≤ n) : Rw w B (if c = k then ao else Option.map (fun x => x.add k) ao) (n - k) (c - k) (zs.drop k) := by
  obtain ⟨h1, h2, h3, h4, h5⟩ := h
  refine ⟨by simp; omega, h2.drop k, by omega, by omega, ?_⟩
  rcases h5 with ⟨rfl, h5⟩ | ⟨gb, off, rfl, h6, h7, h8, h9⟩
  · exact .inl ⟨by simp, by omega⟩
  · by_cases e : c = k
    · rw [if_pos e]
      exact .inr ⟨gb, off, rfl, h6, h7, fun i hi => by omega, fun i hi => by omega⟩
    · rw [if_neg e]
      refine .inr ⟨gb, off + k, by simp [Addr.add_lit], h6, h7, fun i hi => ?_, fun i hi => ?_⟩
      · rw [Nat.add_assoc, Lz.g_drop]; exact h8 (k + i) (by omega)
      · rw [Nat.add_assoc]; exact h9 (k + i) (by omega)
theorem rw_own_drop (ao : Option Addr) (n c n' c' k : Nat) (j : Nat) (h : (Value.slice (if c = k then ao else Option.map (fun x => x.add k) ao) n' c').ownBlock = some j) : (Value.slice ao n c).ownBlock = some j := by
  cases ao with
  | none => simp [Value.ownBlock] at h
  | some a =>
    obtain ⟨b, o, s⟩ := a
    by_cases e : c = k
    · rw [if_pos e] at h; simpa [Value.ownBlock] using h
    · rw [if_neg e] at h
      simp only [Option.map_some] at h
      by_cases e0 : k = 0
      · cases s <;> simpa [Value.ownBlock, Addr.add, e0] using h
      · cases s <;> simpa [Value.ownBlock, Addr.add, e0] using h

set_option maxHeartbeats 400000 in
/-- 'append' to such a row, of bytes wherever they lie. -/
theorem run_append_rw (w : World) (ty : TypeId) {B n vc m c : Nat} {vo ao : Option Addr} {xs zs : List Int} (h : Rw w B vo n vc xs) (hB : B ≤ w.heap.size) (hb : Bs w ao m zs) (hnil : ao = none → c = 0) (hbd : n + m ≤ 100000000) :
    ∃ ao' c' w', (Builtin.append_ #[29, 29] ty #[.slice vo n vc, .slice ao m c]).run Try.prog w = .ok (.slice ao' (n + m) c') w' ∧ Rw w' B ao' (n + m) c' (xs ++ zs) ∧ w.grownBy w' (Value.slice vo n vc).ownBlock ∧ Lie w (.slice vo n vc) (.slice ao' (n + m) c') := by
  obtain ⟨i0, hi, hz0, hz1, hz2⟩ := info_parts infoByte
  obtain ⟨hz, hby, h0⟩ := hb
  have hbz : Bytes zs := Bytes.of_g hby
  have hR := h
  obtain ⟨h1, h2, h3, h4, h5⟩ := h
  cases ao with
  | none =>
    obtain rfl : c = 0 := hnil rfl
    obtain rfl : m = 0 := by
      rcases h0 with h0 | ⟨b, off, h1, _⟩
      · exact h0
      · simp at h1
    obtain rfl : zs = [] := List.eq_nil_of_length_eq_zero hz
    refine ⟨vo, vc, w, ?_, by simpa using hR, World.grownBy.refl _ _, Lie.refl _ _⟩
    rcases h5 with ⟨rfl, rfl⟩ | ⟨gb, off, rfl, h6, h7, h8, h9⟩
    · obtain rfl : n = 0 := by omega
      simp [Builtin.append_, run_underlying Try.underlying29, sizeOf, typeInfo, hi, Builtin.lenOf, Builtin.firstCells]
    · simp [Builtin.append_, run_underlying Try.underlying29, sizeOf, typeInfo, hi, Builtin.lenOf, Builtin.firstCells, loadCells, storeCells, h3]
  | some ad =>
    have hnews : ∀ j u, (bv zs)[j]? = some u → w.cell? (ad.add j) = some u := by
      rcases h0 with h0 | ⟨b, off, e1, _, hseg⟩
      · have : zs = [] := List.eq_nil_of_length_eq_zero (by omega)
        subst this
        intro j u hu; simp [bv] at hu
      · obtain rfl := Option.some.inj e1
        have := news_seg hseg m
        rw [List.take_of_length_le (by omega)] at this
        exact this
    have hby2 : Bytes (xs ++ zs) := h2.append hbz
    have hlb : (bv zs).length = m * 1 := by rw [bv_length]; omega
    rcases h5 with ⟨rfl, rfl⟩ | ⟨gb, off, rfl, h6, h7, h8, h9⟩
    · obtain rfl : n = 0 := by omega
      obtain rfl : xs = [] := List.eq_nil_of_length_eq_zero h1
      obtain ⟨v', w', hrun, r1, r2, _⟩ := run_append_own (P := Try.prog) w w.heap.size 29 ty 5 i0 (.int .u8 0) 1 1 Try.underlying29 hi hz0 hz1 hz2 rfl (by decide) (.slice none 0 0) 0 [] (World.ownsRow_nil w _ _ _) ad m c (bv zs) hlb hnews (bv_one _) (by unfold maxLen; omega) (by omega) (Nat.le_refl _)
      obtain ⟨ao', c', rfl⟩ := owns_shape r1
      rw [show ([] : List Value) ++ bv zs = bv ([] ++ zs) by simp] at r1
      exact ⟨ao', c', w', hrun, (Rw.of_owns r1 hby2).mono hB, r2, fun k hk => .inr (r1.lt k hk).1⟩
    · by_cases hr : n + m ≤ vc
      · have hcs : ∀ j, j < (bv zs).length → (w.cell? ⟨gb, off + n * i0.size + j, none⟩).isSome = true := fun j hj => by
          rw [hz1, Nat.mul_one, Nat.add_assoc]; exact h9 (n + j) (by rw [bv_length] at hj; omega)
        obtain ⟨cur, h7'⟩ := h7
        have hfz : ∀ j, w.frozen? ⟨gb, j, none⟩ = false := fun j => by simp [World.frozen?, h7']
        have hrun := run_append_room_cells (P := Try.prog) w 29 ty 5 i0 Try.underlying29 hi gb off n vc ad m c (bv zs) (by rw [hz1]; exact hlb) hnews (bv_one _) hr hcs (fun j hj => hfz _)
        rw [hz1, Nat.mul_one] at hrun hcs
        refine ⟨some ⟨gb, off, none⟩, vc, _, hrun, ⟨by simp; omega, hby2, hr, h4, .inr ⟨gb, off, rfl, h6, heap_setCells_self _ _ _ _ h7', fun i hi' => ?_, fun i hi' => World.isSome_setCells gb _ _ _ _ (h9 i hi')⟩⟩, grown_setCells _ _ _ _, fun k hk => .inl hk⟩
        by_cases e : i < n
        · rw [World.cell?_setCells_out gb _ _ _ _ (fun _ _ => .inl (by show off + i < off + n; omega)), Lz.g_append_left _ _ _ (by omega)]
          exact h8 i e
        · have hj : i - n < (bv zs).length := by rw [bv_length]; omega
          have := World.cell?_setCells_in gb (bv zs) (off + n) w hcs (i - n) hj
          rw [show off + n + (i - n) = off + i by omega] at this
          rw [this]
          have hzl : i - n < zs.length := by omega
          have e1 : (bv zs)[i - n] = .int .u8 (g zs (i - n)) := by
            have hz' := Lz.g_lt zs (i - n) hzl
            rw [hz']; simp [bv]
          have e2 : g (xs ++ zs) i = g zs (i - n) := by
            have := Frm.g_app_r (a := xs) (b := zs) h1 (i - n)
            rw [show n + (i - n) = i by omega] at this
            exact this
          rw [e1, e2]
      · obtain ⟨v', w', hrun, r1, r2⟩ := run_append_arg_grows (P := Try.prog) w 29 ty 5 i0 (.int .u8 0) 1 1 Try.underlying29 hi hz0 hz1 hz2 rfl (by decide) ⟨gb, off, none⟩ n vc (bv xs) (by rw [bv_length]; omega) (fun j u hu => by
            rw [Addr.add_lit]
            have hj : j < xs.length := by have := (List.getElem?_eq_some_iff.1 hu).1; rwa [bv_length] at this
            rw [h8 j (by omega), ← hu]
            have hx' := Lz.g_lt xs j hj
            rw [hx']; simp [bv, hj]) ad m c (bv zs) hlb hnews (by omega) (by unfold maxLen; omega) (by omega)
        obtain ⟨ao', c', rfl⟩ := owns_shape r1
        rw [← bv_append] at r1
        refine ⟨ao', c', w', hrun, (Rw.of_owns r1 hby2).mono hB, ⟨r2.os, r2.tape, r2.output, r2.size, fun k hk _ => r2.block k hk (by simp)⟩, fun k hk => .inr (r1.lt k hk).1⟩
/-- .. for the walk. -/
theorem wpList_append_rw (w : World) {ops : Array Oper} {rest : List Oper} {o : Oper} {a : Act} {Q : Exit → Act → World → Prop} (hgd : o.guard = none) (s x : Operand)
    (ho : o.op = .call { callee := .builtin .append, args := #[s, x], argTypes := #[29, 29] })
    (B : Nat) (vo : Option Addr) (n vc : Nat) (xs : List Int) (hs : a.eval s = .slice vo n vc) (hR : Rw w B vo n vc xs)
    (ao : Option Addr) (m c : Nat) (zs : List Int) (hx : a.eval x = .slice ao m c) (hb : Bs w ao m zs) (hnil : ao = none → c = 0)
    (hbd : n + m ≤ 100000000) (hB : B ≤ w.heap.size)
    (h : ∀ ao' c' w', Rw w' B ao' (n + m) c' (xs ++ zs) → w.grownBy w' (Value.slice vo n vc).ownBlock → Lie w (.slice vo n vc) (.slice ao' (n + m) c') → wpList Try.prog ops Q rest (a.put o.dst (.slice ao' (n + m) c')) w') :
    wpList Try.prog ops Q (o :: rest) a w := by
  refine wpList_plain hgd fun K hK => ?_
  obtain ⟨ao', c', w', hrun, r1, r2, r3⟩ := run_append_rw w o.type hR hB hb hnil hbd
  unfold Oper.wp
  simp [execOp, ho, resolve, invoke, builtin, hs, hx, hrun, Result.andThen]
  exact hK _ _ (h ao' c' w' r1 r2 r3)
end Go.Proofs.Ytgkclldiphcogaa

/- The program's writer of rows: its state in memory, and the walks of New, refOf, split, frameOf, Add and Done. -/
namespace Go.Proofs.Ytgkclldiphcogaa
set_option linter.unusedVariables false
open Go.RowKit Go.Maps
open Lz (g)
open Crc (ent)
open Frm Mtr

theorem Tb.fr {S : Nat → Prop} {w w' : World} {b : Nat} {T : Nat → Nat} (h : Tb w b T) (hf : Fr S w w') (hlt : b < w.heap.size) (hn : ¬ S b) : Tb w' b T := fun i hi => (hf.cell (q := ⟨b, i, none⟩) hlt hn).trans (h i hi)
/-- One append, as a step of a region that draws. -/
theorem step_append_rw (w : World) {ops : Array Oper} {o : Oper} {a : Act} {K : Act → World → Prop} {Q : Exit → Act → World → Prop} {E : Prop} (hgd : o.guard = none) (s x : Operand)
    (ho : o.op = .call { callee := .builtin .append, args := #[s, x], argTypes := #[29, 29] })
    (B : Nat) (vo : Option Addr) (n vc : Nat) (xs : List Int) (hs : a.eval s = .slice vo n vc) (hR : Rw w B vo n vc xs)
    (ao : Option Addr) (m c : Nat) (zs : List Int) (hx : a.eval x = .slice ao m c) (hb : Bs w ao m zs) (hnil : ao = none → c = 0)
    (hbd : n + m ≤ 100000000) (hB : B ≤ w.heap.size)
    (h : ∀ ao' c' w', Rw w' B ao' (n + m) c' (xs ++ zs) → w.grownBy w' (Value.slice vo n vc).ownBlock → Lie w (.slice vo n vc) (.slice ao' (n + m) c') → K (a.put o.dst (.slice ao' (n + m) c')) w') :
    if Region.wanted o (yielded ops a.tmps) = true then Oper.wp Try.prog o a w K Q else E := by
  have hw : Region.wanted o (yielded ops a.tmps) = true := by simp [Region.wanted, hgd]
  rw [if_pos hw]
  obtain ⟨ao', c', w', hrun, r1, r2, r3⟩ := run_append_rw w o.type hR hB hb hnil hbd
  unfold Oper.wp
  simp [execOp, ho, resolve, invoke, builtin, hs, hx, hrun, Result.andThen]
  exact h ao' c' w' r1 r2 r3
set_option maxRecDepth 100000 in
theorem CloneRw_any (n c : Nat) (ao : Option Addr) (zs : List Int) (w : World) (hb : Bs w ao n zs) (hc : n ≤ c) (hnil : ao = none → c = 0) (hn : n ≤ 100000000) :
    Calls Try.prog 42 #[.slice ao n c] w fun r w' => ∃ ao' c', r = .returned (.slice ao' n c') ∧ Rw w' w.heap.size ao' n c' zs ∧ Below w.heap.size w w' := by
  cases ao with
  | none =>
    obtain rfl : c = 0 := hnil rfl
    obtain rfl : n = 0 := by omega
    obtain rfl : zs = [] := List.eq_nil_of_length_eq_zero hb.1
    clear hnil hb
    have hq : ∀ w : World, (binOp .eql 29 (.slice none 0 0) (.slice none 0 0)).run Try.prog w = .ok (.bool true) w := fun w => eql_nil w none 0 0
    go_enter Try.func42, Try.ntmps42
    go_wp2
    go_ret
    exact ⟨_, _, rfl, Rw.none _ _, Below.refl _ _⟩
  | some a =>
    clear hnil
    have hq : ∀ w : World, (binOp .eql 29 (.slice (some a) n c) (.slice none 0 0)).run Try.prog w = .ok (.bool false) w := fun w => eql_nil w (some a) n c
    have ho := emptyB (w := w) (Nat.le_refl _)
    have hb2 := hb.alloc (.cells #[] 5)
    go_enter Try.func42, Try.ntmps42
    go_wp2_with (first
      | (at_builtin; refine wpList_append_bs _ rfl (.tmp 5) (.tmp 6) rfl w.heap.size _ _ _ _ rfl ho _ n c zs rfl hb2 (fun h => by simp at h) (by omega) (by simp) ?_; intro ao' c' w1 ho1 hg1))
    go_ret
    rw [Nat.zero_add, List.nil_append] at ho1
    refine ⟨ao', c', rfl, Rw.of_owns ho1 hb.bytes, (((Below.refl _ w).alloc (Nat.le_refl _) _)).grown hg1 (by simp) (fun k e => (ho.lt k e).1)⟩

theorem refOf_any (p n : Int) (w : World) (hp : 0 ≤ p ∧ p ≤ 1000000000000) (hn : 0 ≤ n ∧ n ≤ 1000000000000) :
    Calls Try.prog 51 #[.int .i64 p, .int .i64 n] w fun r w' => r = .returned (.int .i64 (256 * p + n)) ∧ w' = w := by
  go_enter Try.func51, Try.ntmps51
  go_wp2
  go_ret
  refine ⟨ret_int ?_, rfl⟩
  omega
theorem split_any (ref : Int) (w : World) (hp : 0 ≤ ref ∧ ref ≤ 9223372036854775807) :
    Calls Try.prog 92 #[.int .i64 ref] w fun r w' => r = .returned (.tuple #[.int .i64 (ref / 256), .int .i64 (ref % 256)]) ∧ w' = w := by
  obtain ⟨k, rfl⟩ : ∃ k : Nat, ref = k := ⟨ref.toNat, by omega⟩
  go_enter Try.func92, Try.ntmps92
  go_wp2
  go_ret2
  exact ⟨rfl, rfl⟩

/-- The writer's block. -/
def Wd (w : World) (p tb : Nat) (fo : Option Addr) (fn fc : Nat) (ro : Option Addr) (rn rc : Nat) : Prop := w.heap[p]? = some (.cells #[.pointer (some ⟨tb, 0, none⟩), .slice fo fn fc, .slice ro rn rc] 108 (0, 0))
section
variable {w w' : World} {p tb fn fc rn rc : Nat} {fo ro : Option Addr}
theorem Wd.lt (h : Wd w p tb fo fn fc ro rn rc) : p < w.heap.size := heap_lt h
theorem Wd.c0 (h : Wd w p tb fo fn fc ro rn rc) : w.cell? ⟨p, 0, none⟩ = some (.pointer (some ⟨tb, 0, none⟩)) := by unfold Wd at h; simp [World.cell?, h]
theorem Wd.c1 (h : Wd w p tb fo fn fc ro rn rc) : w.cell? ⟨p, 1, none⟩ = some (.slice fo fn fc) := by unfold Wd at h; simp [World.cell?, h]
theorem Wd.c2 (h : Wd w p tb fo fn fc ro rn rc) : w.cell? ⟨p, 2, none⟩ = some (.slice ro rn rc) := by unfold Wd at h; simp [World.cell?, h]
theorem Wd.f (h : Wd w p tb fo fn fc ro rn rc) (i : Nat) : w.frozen? ⟨p, i, none⟩ = false := by unfold Wd at h; simp [World.frozen?, h]
theorem Wd.set1 (h : Wd w p tb fo fn fc ro rn rc) (fo' : Option Addr) (fn' fc' : Nat) : Wd (w.setCell ⟨p, 1, none⟩ (.slice fo' fn' fc')) p tb fo' fn' fc' ro rn rc := by
  unfold Wd; rw [heap_setCell_self h]; rfl
theorem Wd.set2 (h : Wd w p tb fo fn fc ro rn rc) (ro' : Option Addr) (rn' rc' : Nat) : Wd (w.setCell ⟨p, 2, none⟩ (.slice ro' rn' rc')) p tb fo fn fc ro' rn' rc' := by
  unfold Wd; rw [heap_setCell_self h]; rfl
theorem Wd.fr {S : Nat → Prop} (h : Wd w p tb fo fn fc ro rn rc) (hf : Fr S w w') (hn : ¬ S p) : Wd w' p tb fo fn fc ro rn rc := (hf.block p h.lt hn).trans h
theorem Wd.ne {t : TypeId} {cur : Array Value} {k : Nat} (h : Wd w p tb fo fn fc ro rn rc) (hk : w.heap[k]? = some (.cells cur t (0, 0))) (ht : t ≠ 108) : k ≠ p := fun e => by
  subst e; unfold Wd at h; rw [h] at hk; simp at hk; exact ht hk.2.symm
end
/-- The writer: what it has framed, and what it has not; O: the blocks that are its own. -/
def WrM (w : World) (p : Nat) (O : Nat → Prop) (tb : Nat) (F R : List Int) : Prop :=
  ∃ fo fn fc ro rn rc, Wd w p tb fo fn fc ro rn rc ∧ O p ∧ Rw w 0 fo fn fc F ∧ Rw w 0 ro rn rc R ∧
    (∀ k, (Value.slice fo fn fc).ownBlock = some k → O k ∧ (Value.slice ro rn rc).ownBlock ≠ some k) ∧ (∀ k, (Value.slice ro rn rc).ownBlock = some k → O k) ∧ (∀ k, O k → k < w.heap.size)
/-- What is its own is new, or was. -/
def Gr (O O' : Nat → Prop) (w : World) : Prop := ∀ k, O' k → O k ∨ w.heap.size ≤ k
theorem Gr.refl (O : Nat → Prop) (w : World) : Gr O O w := fun k h => .inl h
theorem Gr.trans {O O' O'' : Nat → Prop} {w w' : World} (h : Gr O O' w) (h' : Gr O' O'' w') (hs : w.heap.size ≤ w'.heap.size) : Gr O O'' w := fun k hk => by
  rcases h' k hk with h1 | h1
  · exact h k h1
  · exact .inr (by omega)
theorem Fr.gr {O O' : Nat → Prop} {a b c : World} (h : Fr O a b) (hg : Gr O O' a) (h' : Fr O' b c) : Fr O a c := h.trans h' fun i hi hx => by
  rcases hg i hx with h1 | h1
  · exact h1
  · omega
theorem WrM.fr {S : Nat → Prop} {w w' : World} {p tb : Nat} {O : Nat → Prop} {F R : List Int} (h : WrM w p O tb F R) (hf : Fr S w w') (hn : ∀ k, O k → ¬ S k) : WrM w' p O tb F R := by
  obtain ⟨fo, fn, fc, ro, rn, rc, h1, h2, h3, h4, h5, h6, h7⟩ := h
  exact ⟨fo, fn, fc, ro, rn, rc, h1.fr hf (hn _ h2), h2, h3.fr hf (fun k hk => hn _ (h5 k hk).1), h4.fr hf (fun k hk => hn _ (h6 k hk)), h5, h6, fun k hk => Nat.lt_of_lt_of_le (h7 k hk) hf.size⟩
theorem WrM.below {w w' : World} {p tb : Nat} {O : Nat → Prop} {F R : List Int} (h : WrM w p O tb F R) (hb : Below w.heap.size w w') : WrM w' p O tb F R := h.fr (Fr.of_below (S := fun _ => False) hb) (fun _ _ h => h)
theorem WrM.lt {w : World} {p tb : Nat} {O : Nat → Prop} {F R : List Int} (h : WrM w p O tb F R) : p < w.heap.size ∧ O p := by
  obtain ⟨fo, fn, fc, ro, rn, rc, h1, h2, _⟩ := h
  exact ⟨h1.lt, h2⟩
theorem WrM.olt {w : World} {p tb : Nat} {O : Nat → Prop} {F R : List Int} (h : WrM w p O tb F R) : ∀ k, O k → k < w.heap.size := by
  obtain ⟨fo, fn, fc, ro, rn, rc, h1, h2, h3, h4, h5, h6, h7⟩ := h
  exact h7

theorem metaNew_any (tb : Nat) (w : World) : Calls Try.prog 24 #[.pointer (some ⟨tb, 0, none⟩)] w fun r w' => r = .returned (.pointer (some ⟨w.heap.size, 0, none⟩)) ∧ WrM w' w.heap.size (fun k => k = w.heap.size) tb [] [] ∧ Below w.heap.size w w' ∧ w'.heap.size = w.heap.size + 1 := by
  go_enter Try.func24, Try.ntmps24
  go_wp2
  go_ret
  refine ⟨rfl, ⟨none, 0, 0, none, 0, 0, heap_alloc_new w _, rfl, Rw.none _ _, Rw.none _ _, fun k hk => by simp [Value.ownBlock] at hk, fun k hk => by simp [Value.ownBlock] at hk, fun k hk => by subst hk; simp⟩, (Below.refl _ _).alloc (Nat.le_refl _) _, by simp⟩

set_option maxRecDepth 100000 in
theorem frameOf_any (p tb n c fn fc rn rc : Nat) (fo ro ao : Option Addr) (T : Nat → Nat) (zs : List Int) (w : World) (h : Wd w p tb fo fn fc ro rn rc) (hT : Tb w tb T) (htb : tb < w.heap.size) (hS : Small T) (hb : Bs w ao n zs) (hc : n ≤ c) (hnil : ao = none → c = 0) (hn : n ≤ 128) :
    Calls Try.prog 52 #[.pointer (some ⟨p, 0, none⟩), .slice ao n c] w fun r w' => ∃ ao' c', r = .returned (.slice ao' (put T zs).length c') ∧ New w w' ao' (put T zs).length c' (put T zs) := by
  have h0 := h.c0
  have H := hide (Put_any tb n c T ao zs w hT htb hS hb hc hnil (by omega))
  have HZ := hide hb.1
  clear h hT hS hb hnil
  go_enter Try.func52, Try.ntmps52
  go_wp2_with fail
  refine H.out.mono ?_
  rintro r w1 (⟨h, _⟩ | ⟨_, ao', c', rfl, hN⟩)
  · rw [HZ.out] at h; omega
  have HN := hide hN
  clear hN H
  go_wp2
  go_ret
  exact ⟨_, _, rfl, HN.out⟩
end Go.Proofs.Ytgkclldiphcogaa

/- The walks of the writer's Add and Done. -/
namespace Go.Proofs.Ytgkclldiphcogaa
set_option linter.unusedVariables false
open Go.RowKit Go.Maps
open Lz (g)
open Crc (ent)
open Frm Mtr

/-- How long the rest is. -/
def lenAt (w : World) (p : Nat) : Nat := match w.cell? ⟨p, 2, none⟩ with | some (.slice _ n _) => n | _ => 0
theorem Wd.len {w : World} {p tb fn fc rn rc : Nat} {fo ro : Option Addr} (h : Wd w p tb fo fn fc ro rn rc) : lenAt w p = rn := by unfold lenAt; rw [h.c2]
/-- Behind one frame more. -/
theorem wr_frame {w w1 w2 : World} {p tb fn fc rn rc m c2 c3 : Nat} {fo ro ao2 ao3 : Option Addr} {O : Nat → Prop} {F R P : List Int}
    (hd : Wd w p tb fo fn fc ro rn rc) (hO : O p) (hF : Rw w 0 fo fn fc F) (hR : Rw w 0 ro rn rc R) (h5 : ∀ k, (Value.slice fo fn fc).ownBlock = some k → O k ∧ (Value.slice ro rn rc).ownBlock ≠ some k) (h6 : ∀ k, (Value.slice ro rn rc).ownBlock = some k → O k)
    (hN : New w w1 ao2 m c2 P) (hA : Rw w2 0 ao3 (fn + m) c3 (F ++ P)) (hg : w1.grownBy w2 (Value.slice fo fn fc).ownBlock) (hl : Lie w1 (.slice fo fn fc) (.slice ao3 (fn + m) c3)) (h128 : 128 ≤ rn) (h7 : ∀ k, O k → k < w.heap.size) :
    ∃ O', WrM ((w2.setCell ⟨p, 1, none⟩ (.slice ao3 (fn + m) c3)).setCell ⟨p, 2, none⟩ (.slice (if rc = 128 then ro else Option.map (fun x => x.add 128) ro) (rn - 128) (rc - 128))) p O' tb (F ++ P) (R.drop 128) ∧
      Fr O w ((w2.setCell ⟨p, 1, none⟩ (.slice ao3 (fn + m) c3)).setCell ⟨p, 2, none⟩ (.slice (if rc = 128 then ro else Option.map (fun x => x.add 128) ro) (rn - 128) (rc - 128))) ∧ Gr O O' w := by
  have f1 : Fr (fun _ => False) w w1 := Fr.of_below hN.bel
  have hd1 : Wd w1 p tb fo fn fc ro rn rc := hd.fr f1 id
  have hR1 : Rw w1 0 ro rn rc R := hR.fr f1 (fun _ _ => id)
  have hF1 : Rw w1 0 fo fn fc F := hF.fr f1 (fun _ _ => id)
  have f2 : Fr (fun k => (Value.slice fo fn fc).ownBlock = some k) w1 w2 := Fr.of_grown hg (fun k hk => hk)
  have hd2 : Wd w2 p tb fo fn fc ro rn rc := hd1.fr f2 (fun hk => by
    obtain ⟨_, _, cur, hc⟩ := hF1.own hk
    exact hd1.ne hc (by decide) rfl)
  have hR2 : Rw w2 0 ro rn rc R := hR1.fr f2 (fun k hk hx => (h5 k hx).2 hk)
  have hd4 := (hd2.set1 ao3 (fn + m) c3).set2 (if rc = 128 then ro else Option.map (fun x => x.add 128) ro) (rn - 128) (rc - 128)
  have fs : Fr (One p) w2 ((w2.setCell ⟨p, 1, none⟩ (.slice ao3 (fn + m) c3)).setCell ⟨p, 2, none⟩ (.slice (if rc = 128 then ro else Option.map (fun x => x.add 128) ro) (rn - 128) (rc - 128))) :=
    ((Fr.refl (One p) _).set (p := ⟨p, 1, none⟩) _ (fun _ => rfl)).set (p := ⟨p, 2, none⟩) _ (fun _ => rfl)
  have hn3 : ∀ k, (Value.slice ao3 (fn + m) c3).ownBlock = some k → ¬ One p k := fun k hk hx => by
    obtain ⟨_, _, cur, hc⟩ := hA.own hk
    exact hd2.ne hc (by decide) hx
  have hn4 : ∀ k, (Value.slice ro rn rc).ownBlock = some k → ¬ One p k := fun k hk hx => by
    obtain ⟨_, _, cur, hc⟩ := hR2.own hk
    exact hd2.ne hc (by decide) hx
  have hR3 := (hR2.fr fs hn4).drop 128 (by have := hR.1; omega)
  have hs1 := hN.bel.size
  have hs2 := hg.size
  refine ⟨fun k => O k ∨ (w.heap.size ≤ k ∧ k < w2.heap.size), ⟨ao3, fn + m, c3, _, _, _, hd4, .inl hO, hA.fr fs hn3, hR3, fun k hk => ⟨?_, fun hx => ?_⟩, fun k hk => .inl (h6 k (rw_own_drop ro rn rc _ _ 128 k hk)), fun k hk => ?_⟩, ?_, fun k hk => hk.imp id (fun h => h.1)⟩
  · rcases hl k hk with h | h
    · exact .inl (h5 k h).1
    · exact .inr ⟨Nat.le_trans hN.bel.size h, (hA.own hk).2.1⟩
  · have hx' := rw_own_drop ro rn rc _ _ 128 k hx
    rcases hl k hk with h | h
    · exact (h5 k h).2 hx'
    · have := (hR1.own hx').2.1; omega
  · have hs4 := fs.size
    rcases hk with hk | hk
    · have := h7 k hk; omega
    · omega
  · have fO : Fr O w w2 := (f1.mono (S' := O) (fun _ _ h => h.elim)).trans f2 (fun i _ hi => (h5 i hi).1)
    exact fO.trans fs (fun i _ (hi : i = p) => by rw [hi]; exact hO)

/-- Behind what was added to the rest. -/
theorem wr_rest {w w1 : World} {p tb fn fc rn rc m c1 : Nat} {fo ro ao1 : Option Addr} {O : Nat → Prop} {F R Z : List Int}
    (hd : Wd w p tb fo fn fc ro rn rc) (hO : O p) (hF : Rw w 0 fo fn fc F) (hR : Rw w 0 ro rn rc R) (h5 : ∀ k, (Value.slice fo fn fc).ownBlock = some k → O k ∧ (Value.slice ro rn rc).ownBlock ≠ some k) (h6 : ∀ k, (Value.slice ro rn rc).ownBlock = some k → O k)
    (hA : Rw w1 0 ao1 m c1 (R ++ Z)) (hg : w.grownBy w1 (Value.slice ro rn rc).ownBlock) (hl : Lie w (.slice ro rn rc) (.slice ao1 m c1)) (h7 : ∀ k, O k → k < w.heap.size) :
    Wd w1 p tb fo fn fc ro rn rc ∧ ∃ O', WrM (w1.setCell ⟨p, 2, none⟩ (.slice ao1 m c1)) p O' tb F (R ++ Z) ∧ Fr O w (w1.setCell ⟨p, 2, none⟩ (.slice ao1 m c1)) ∧ Gr O O' w := by
  have f2 : Fr (fun k => (Value.slice ro rn rc).ownBlock = some k) w w1 := Fr.of_grown hg (fun k hk => hk)
  have hd2 : Wd w1 p tb fo fn fc ro rn rc := hd.fr f2 (fun hk => by
    obtain ⟨_, _, cur, hc⟩ := hR.own hk
    exact hd.ne hc (by decide) rfl)
  have hF2 : Rw w1 0 fo fn fc F := hF.fr f2 (fun k hk hx => (h5 k hk).2 hx)
  have hd4 := hd2.set2 ao1 m c1
  have fs : Fr (One p) w1 (w1.setCell ⟨p, 2, none⟩ (.slice ao1 m c1)) := (Fr.refl (One p) _).set (p := ⟨p, 2, none⟩) _ (fun _ => rfl)
  have hn3 : ∀ k, (Value.slice ao1 m c1).ownBlock = some k → ¬ One p k := fun k hk hx => by
    obtain ⟨_, _, cur, hc⟩ := hA.own hk
    exact hd2.ne hc (by decide) hx
  have hn4 : ∀ k, (Value.slice fo fn fc).ownBlock = some k → ¬ One p k := fun k hk hx => by
    obtain ⟨_, _, cur, hc⟩ := hF2.own hk
    exact hd2.ne hc (by decide) hx
  have hs2 := hg.size
  refine ⟨hd2, fun k => O k ∨ (w.heap.size ≤ k ∧ k < w1.heap.size), ⟨fo, fn, fc, ao1, m, c1, hd4, .inl hO, hF2.fr fs hn4, hA.fr fs hn3, fun k hk => ⟨.inl (h5 k hk).1, fun hx => ?_⟩, fun k hk => ?_, fun k hk => ?_⟩, ?_, fun k hk => hk.imp id (fun h => h.1)⟩
  · rcases hl k hx with h | h
    · exact (h5 k hk).2 h
    · have := (hF.own hk).2.1; omega
  · rcases hl k hk with h | h
    · exact .inl (h6 k h)
    · exact .inr ⟨h, (hA.own hk).2.1⟩
  · have hs4 := fs.size
    rcases hk with hk | hk
    · have := h7 k hk; omega
    · omega
  · have fO : Fr O w w1 := f2.mono (fun i _ hi => h6 i hi)
    exact fO.trans fs (fun i _ (hi : i = p) => by rw [hi]; exact hO)
theorem New.undrew {w w' : World} {ao : Option Addr} {n c : Nat} {zs : List Int} (h : New w.drew w' ao n c zs) : New w w' ao n c zs := ⟨h.bs, h.cap, h.max, h.nil, ⟨h.bel.os, h.bel.tape, h.bel.output, h.bel.size, h.bel.block⟩, h.own⟩
theorem Fr.undrewN {S : Nat → Prop} {a b : World} {n : Nat} (h : Fr S (a.drewN n) b) : Fr S a b := ⟨h.os, h.tape, h.output, h.size, h.block⟩

set_option maxRecDepth 100000 in
set_option maxHeartbeats 1000000 in
theorem Add_any (p tb n c : Nat) (O : Nat → Prop) (ao : Option Addr) (T : Nat → Nat) (z zs : List Int) (w : World) (h : WrM w p O tb (fr T z (z.length / 128)) (rest z)) (hT : Tb w tb T) (htb : tb < w.heap.size) (hOt : ¬ O tb) (hS : Small T)
    (hb : Bs w ao n zs) (hnil : ao = none → c = 0) (hz : z.length ≤ 100000) (hn : n ≤ 100000) :
    Calls Try.prog 25 #[.pointer (some ⟨p, 0, none⟩), .slice ao n c] w fun r w' => r = .returned (.int .i64 (rf T z z.length)) ∧ ∃ O', WrM w' p O' tb (fr T (z ++ zs) ((z ++ zs).length / 128)) (rest (z ++ zs)) ∧ Fr O w w' ∧ Gr O O' w := by
  obtain ⟨fo, fn, fc, ro, rn, rc, hd, hO, hF, hR, h5, h6, h7⟩ := h
  have H7 := hide h7
  have hfl := fr_length T z (z.length / 128)
  have hfn := hF.1
  have hrn := hR.1
  have hrl := rest_length z
  have hzl := hb.1
  have HRF : Hid (rf T z z.length = 256 * (fn : Int) + rn) := by
    show rf T z z.length = _
    unfold rf; omega
  have hfb : fn ≤ 110000 := by omega
  have hrb : rn < 128 := by omega
  have HF := hide hF
  have HR := hide hR
  have HD := hide hd
  have H5 := hide h5
  have H6 := hide h6
  have HT := hide hT
  have HO := hide hO
  have HOt := hide hOt
  have HS := hide hS
  have HB := hide hb
  have HN := hide hnil
  have c1 := hd.c1
  have c2 := hd.c2
  rw [HRF.out]
  clear hF hR hd h5 h6 h7 hT hO hOt hS hb hnil hfl hfn hrn hrl HRF
  go_enter Try.func25, Try.ntmps25
  go_wp2_with fail
  go_quiet ((first
    | (go_at_call 51; refine Calls.quiet_of_same (refOf_any fn rn _ (by omega) (by omega)))))
  have HRq : Hid (Rw (w.drewN nq) 0 ro rn rc (rest z)) := HR.out
  have HBq : Hid (Bs (w.drewN nq) ao n zs) := HB.out
  have c2q : (w.drewN nq).cell? ⟨p, 2, none⟩ = some (.slice ro rn rc) := c2
  clear c1 c2
  go_wp2_with (first
    | (at_builtin; refine wpList_append_rw _ rfl (.tmp 21) (.tmp 22) rfl 0 ro rn rc (rest z) rfl HRq.out ao n c zs rfl HBq.out HN.out (by omega) (Nat.zero_le _) ?_
       intro ao1 k1 w1 hA hg hl
       have HX := hide (wr_rest (w := w.drewN nq) HD.out HO.out HF.out HR.out H5.out H6.out hA hg hl H7.out)
       have c21 := HX.out.1.c2
       have f21 := HX.out.1.f 2
       clear hA hg hl))
  obtain ⟨_, O1, hW1, hF1, hG1⟩ := HX.out
  have hlz : (z ++ zs).length = z.length + n := by rw [List.length_append, hzl]
  have HL : Hid (∃ k O', WrM (w1.setCell ⟨p, 2, none⟩ (.slice ao1 (rn + n) k1)) p O' tb (fr T (z ++ zs) k) ((z ++ zs).drop (128 * k)) ∧ Fr O w (w1.setCell ⟨p, 2, none⟩ (.slice ao1 (rn + n) k1)) ∧ Gr O O' w ∧ 128 * k ≤ (z ++ zs).length) := by
    refine ⟨z.length / 128, O1, ?_, hF1.undrewN, hG1, by omega⟩
    rw [fr_append T z zs _ (by omega), List.drop_append_of_le_length (by omega)]
    exact hW1
  clear hW1 hF1 hG1 HX HF HR HD H5 H6 HRq HBq HB c2q c21 f21
  go_loopw [] (fun wr => ∃ k O', WrM wr p O' tb (fr T (z ++ zs) k) ((z ++ zs).drop (128 * k)) ∧ Fr O w wr ∧ Gr O O' w ∧ 128 * k ≤ (z ++ zs).length) (fun wr => lenAt wr p)
  case atStart => exact HL.out
  case round =>
    clear HL
    obtain ⟨k, O2, hW, hFr, hG, hk⟩ := hrel
    have hW0 := hW
    obtain ⟨fo2, fn2, fc2, ro2, rn2, rc2, hd, hO2, hF, hR, h5, h6, h7⟩ := hW
    have c1 := hd.c1
    have c2 := hd.c2
    have hlen := hd.len
    have HD := hide hd
    have HF := hide hF
    have HR := hide hR
    have H5 := hide h5
    have H6 := hide h6
    have HO2 := hide hO2
    have HFr := hide hFr
    have HG := hide hG
    have hrl := hR.1
    have hrc : rn2 ≤ rc2 := hR.2.2.1
    have hrm : rc2 ≤ maxLen := hR.2.2.2.1
    unfold maxLen at hrm
    have hfl := fr_length T (z ++ zs) k
    have hfn := hF.1
    have hfb : fn2 ≤ 1000000 := by omega
    rw [List.length_drop] at hrl
    by_cases hgo : 128 ≤ rn2
    · have hg1 : (128 : Int) ≤ (rn2 : Int) := by omega
      have hg2 : (128 : Int) ≤ (rc2 : Int) := by omega
      have htw : tb < wr.heap.size := Nat.lt_of_lt_of_le htb hFr.size
      have hTw : Tb wr tb T := HT.out.fr hFr htb HOt.out
      have hBs : Bs wr ro2 128 (blk (z ++ zs) k) := hR.bs.take 128 hgo
      have HC := hide (fun wx (e : wx = wr.drew) => frameOf_any p tb 128 rc2 fn2 fc2 rn2 rc2 fo2 ro2 ro2 T (blk (z ++ zs) k) wx (by rw [e]; exact hd) (by rw [e]; exact hTw) (by rw [e]; exact htw) HS.out (by rw [e]; exact hBs) (by omega) hR.nil (by omega))
      have hpl := (put_length (T := T) (blk_le (z ++ zs) k)).2.2
      have HFk := hide (fr_succ T (z ++ zs) k)
      have HRk := hide (show ((z ++ zs).drop (128 * k)).drop 128 = (z ++ zs).drop (128 * (k + 1)) by rw [List.drop_drop, Nat.mul_add])
      generalize put T (blk (z ++ zs) k) = P at *
      obtain ⟨m, hm⟩ : ∃ m, P.length = m := ⟨_, rfl⟩
      rw [hm] at hpl HC
      have HX := hide (fun (w3 w4 : World) (ao3 ao4 : Option Addr) (k3 k4 : Nat) hN hA hg hl => wr_frame (w1 := w3) (w2 := w4) (m := m) (P := P) (ao2 := ao3) (c2 := k3) (ao3 := ao4) (c3 := k4) hd hO2 hF hR h5 h6 hN hA hg hl hgo h7)
      have HY := hide (fun (w3 : World) (ao3 : Option Addr) (k3 : Nat) (hN : New wr w3 ao3 m k3 P) => And.intro (hd.fr (Fr.of_below (S := fun _ => False) (b := w3) hN.bel) id) (hF.fr (Fr.of_below (S := fun _ => False) (b := w3) hN.bel) (fun _ _ => id)))
      have HZ := hide (fun (w3 w4 : World) (hd3 : Wd w3 p tb fo2 fn2 fc2 ro2 rn2 rc2) (hF3 : Rw w3 0 fo2 fn2 fc2 (fr T (z ++ zs) k)) (hg : w3.grownBy w4 (Value.slice fo2 fn2 fc2).ownBlock) => hd3.fr (Fr.of_grown (S := fun j => (Value.slice fo2 fn2 fc2).ownBlock = some j) hg (fun j hj => hj)) (fun hj => by
        obtain ⟨_, _, cur, hc⟩ := hF3.own hj
        exact hd3.ne hc (by decide) rfl))
      clear hd hF hR h5 h6 h7 hO2 hFr hG hTw hBs hW0 hm
      go_wp2_with fail
      go_region_law ((first
        | (refine step_append_rw w3 (by rfl) (.tmp 36) (.tmp 43) (by rfl) 0 fo2 fn2 fc2 (fr T (z ++ zs) k) (by rfl) HF3.out ao3 m k3 P (by rfl) HN3.out.bs HN3.out.nil (by omega) (Nat.zero_le _) ?_; intro ao4 k4 w4 hA hg hl; have HX4 := hide (HX.out w3 w4 ao3 ao4 k3 k4 HN3.out hA hg hl); have hd4 := HZ.out w3 w4 HD3.out HF3.out hg; have c14 := hd4.c1; have f14 := hd4.f 1; have HD4 := hide hd4; clear hA hg hl hd4)
        | (go_simp; go_at_call 52; refine (HC.out wr.drew rfl).mono ?_; rintro r w3 ⟨ao3, k3, rfl, hN⟩; have HN3 := hide hN.undrew; have hY := HY.out w3 ao3 k3 hN.undrew; have c13 := hY.1.c1; have HD3 := hide hY.1; have HF3 := hide hY.2; clear hN hY; dsimp only)))
      all_goals (
        have hd5 := HD4.out.set1 ao4 (fn2 + m) k4
        have c25 := hd5.c2
        have f25 := hd5.f 2
        have HL5 := hide ((hd5.set2 (if rc2 = 128 then ro2 else Option.map (fun x => x.add 128) ro2) (rn2 - 128) (rc2 - 128)).len)
        clear hd5 c1 c2 c13 c14 f14 HX HY HZ HC HN3 HD3 HF3 HD4 HD HF HR H5 H6
        go_wp2
        go_roundw
        case rel =>
          obtain ⟨O3, x1, x2, x3⟩ := HX4.out
          refine ⟨k + 1, O3, ?_, HFr.out.gr HG.out x2, HG.out.trans x3 HFr.out.size, by omega⟩
          rw [HFk.out, ← HRk.out]
          exact x1
        case measure =>
          exact Nat.lt_of_le_of_lt (Nat.le_of_eq HL5.out) (by rw [hlen]; omega))
    · have hg1 : (rn2 : Int) < 128 := by omega
      have hg2 : decide ((128 : Int) ≤ (rn2 : Int)) = false := by simp; omega
      have hke : k = (z ++ zs).length / 128 := by omega
      have HFin : Hid (∃ O', WrM wr p O' tb (fr T (z ++ zs) ((z ++ zs).length / 128)) (rest (z ++ zs)) ∧ Fr O w wr ∧ Gr O O' w) := by
        refine ⟨O2, ?_, hFr, hG⟩
        unfold rest
        rw [← hke]; exact hW0
      clear hd hF hR h5 h6 h7 hO2 hFr hG hW0 HD HF HR H5 H6 hke
      go_wp2
      go_ret
      exact ⟨rfl, HFin.out⟩

set_option maxRecDepth 100000 in
set_option maxHeartbeats 400000 in
theorem metaDone_any (p tb : Nat) (O : Nat → Prop) (T : Nat → Nat) (z : List Int) (w : World) (h : WrM w p O tb (fr T z (z.length / 128)) (rest z)) (hT : Tb w tb T) (htb : tb < w.heap.size) (hS : Small T) (hz : z.length ≤ 100000) :
    Calls Try.prog 26 #[.pointer (some ⟨p, 0, none⟩)] w fun r w' => ∃ ao c, r = .returned (.slice ao (done T z).length c) ∧ Fresh w w' ao (done T z).length c (done T z) := by
  obtain ⟨fo, fn, fc, ro, rn, rc, hd, hO, hF, hR, h5, h6, h7⟩ := h
  have hfl := fr_length T z (z.length / 128)
  have hfn := hF.1
  have hrn := hR.1
  have hrl := rest_length z
  have hfb : fn ≤ 110000 := by omega
  have hrb : rn < 128 := by omega
  have c1 := hd.c1
  have c2 := hd.c2
  have HR := hide hR
  have HC := hide (CloneRw_any fn fc fo (fr T z (z.length / 128)) w hF.bs hF.2.2.1 hF.nil (by omega))
  have HQ := hide (fun (w1 : World) (hb1 : Below w.heap.size w w1) => frameOf_any p tb rn rc fn fc rn rc fo ro ro T (rest z) w1 (hd.fr (Fr.of_below (S := fun _ => False) hb1) id) (hT.below hb1 htb) (Nat.lt_of_lt_of_le htb hb1.size) hS (hR.bs.below hb1) hR.2.2.1 hR.nil (by omega))
  have HW := hide (fun (w1 : World) (hb1 : Below w.heap.size w w1) => hd.fr (Fr.of_below (S := fun _ => False) hb1) id)
  by_cases h0 : rn = 0
  · subst h0
    have hnil : rest z = [] := List.eq_nil_of_length_eq_zero hrn
    have HD : Hid (done T z = fr T z (z.length / 128)) := done_full T hnil
    have HL : Hid ((fr T z (z.length / 128)).length = fn) := hfn
    clear hd hF hR h5 h6 h7 hT hS hO hfn hrn hrl hfl hnil
    go_enter Try.func26, Try.ntmps26
    go_wp2_with fail
    refine HC.out.mono ?_
    rintro r w1 ⟨ao1, k1, rfl, hA, hb1⟩
    have c21 := (HW.out w1 hb1).c2
    have HA := hide hA
    have HB1 := hide hb1
    clear hA hb1 HC
    go_wp2
    go_ret
    refine ⟨ao1, k1, by rw [HD.out, HL.out]; rfl, ?_⟩
    rw [HD.out, HL.out]
    have hm := HA.out.2.2.2.1
    unfold maxLen at hm
    exact ⟨HA.out.bs, HA.out.2.2.1, by omega, HA.out.nil, HB1.out, fun a ha => (HA.out.own (k := a.block) (by rw [ha]; rfl)).1⟩
  · have hne : rest z ≠ [] := fun e => by rw [e] at hrn; simp at hrn; omega
    have HD : Hid (done T z = fr T z (z.length / 128) ++ put T (rest z)) := done_part T hne
    have hpl := (put_length (T := T) (b := rest z) (by omega)).2.2
    have HL : Hid ((fr T z (z.length / 128)).length = fn) := hfn
    have h0' : ((rn : Int) == 0) = false := by simp; omega
    clear hd hF hR h5 h6 h7 hT hS hO hfn hrn hrl hfl hne
    generalize put T (rest z) = P at *
    obtain ⟨m, hm⟩ : ∃ m, P.length = m := ⟨_, rfl⟩
    have HM := hide hm
    rw [hm] at hpl HQ
    clear hm
    go_enter Try.func26, Try.ntmps26
    go_wp2_with fail
    refine HC.out.mono ?_
    rintro r w1 ⟨ao1, k1, rfl, hA, hb1⟩
    have c21 := (HW.out w1 hb1).c2
    have HA := hide hA
    have HB1 := hide hb1
    clear hA HC
    go_wp2_with fail
    refine (HQ.out w1 hb1).mono ?_
    rintro r w2 ⟨ao2, k2, rfl, hN⟩
    have HN := hide hN
    have HA2 := hide (HA.out.fr (Fr.of_below (S := fun _ => False) hN.bel) (fun _ _ => id))
    clear hN HQ hb1 c21
    go_wp2_with (first
      | (at_builtin; refine wpList_append_rw _ rfl (.tmp 16) (.tmp 22) rfl w.heap.size ao1 fn k1 (fr T z (z.length / 128)) rfl HA2.out ao2 m k2 P rfl HN.out.bs HN.out.nil (by omega) (Nat.le_trans HB1.out.size HN.out.bel.size) ?_; intro ao3 k3 w3 hA3 hg3 hl3))
    go_ret
    have hb3 : Below w.heap.size w w3 := (HB1.out.trans (HN.out.bel.mono HB1.out.size)).trans ((Fr.of_grown (S := fun k => w.heap.size ≤ k) hg3 (fun k hk => (HA2.out.own hk).1)).below w.heap.size (Nat.le_trans HB1.out.size HN.out.bel.size) (fun k h => h))
    have hm3 := hA3.2.2.2.1
    unfold maxLen at hm3
    have hlm : (done T z).length = fn + m := by rw [HD.out, List.length_append, HL.out, HM.out]
    refine ⟨ao3, k3, by rw [hlm]; rfl, ?_⟩
    rw [hlm, HD.out]
    exact ⟨hA3.bs, hA3.2.2.1, by omega, hA3.nil, hb3, fun a ha => (hA3.own (k := a.block) (by rw [ha]; rfl)).1⟩
end Go.Proofs.Ytgkclldiphcogaa

/- The program's reader of rows in memory: its block (260 cells, a table among them), its map of frames that were taken, and what these calls leave of it; tables held against each other; Open. -/
namespace Go.Proofs.Ytgkclldiphcogaa
set_option linter.unusedVariables false
open Go.RowKit Go.Maps
open Go.ChangeMaps Go.MapKept
open Lz (g)
open Crc (ent)
open Frm Mtr

/-- Are two tables the same? -/
def eqT (U T : Nat → Nat) : Bool := (List.range' 0 256 1).all fun i => U i == T i
theorem eqT_true {U T : Nat → Nat} (h : eqT U T = true) : ∀ i, i < 256 → U i = T i := fun i hi => by
  unfold eqT at h
  have := List.all_eq_true.1 h i (List.mem_range'_1.2 ⟨by omega, by omega⟩)
  simpa using this
theorem run_equalIn_tabs (P : Program) (w : World) (d : Nat) (t e : TypeId) (ht : P.underlying t = some (.array 256 e)) (he : P.underlying e = some (.int .u32)) (hsz : ∀ w, (sizeOf e).run P w = .ok 1 w) (U T : Nat → Nat) :
    (Op.equalIn (d + 2) t (.agg (tab U)) (.agg (tab T))).run P w = .ok (eqT U T) w := by
  rw [Op.equalIn]
  simp only [Sem.run_bind, run_underlying ht, Result.andThen_ok, hsz, Std.Legacy.Range.forIn_eq_forIn_range', Std.Legacy.Range.size, Nat.sub_zero, Nat.add_sub_cancel, Nat.div_one]
  unfold eqT
  have hl : ∀ i ∈ List.range' 0 256 1, i < 256 := fun i hi => by simpa using (List.mem_range'_1.1 hi).2
  generalize List.range' 0 256 1 = l at hl ⊢
  induction l with
  | nil => simp
  | cons i l ih =>
    have hi : i < 256 := hl i (by simp)
    have px : ∀ U : Nat → Nat, (part e (tab U) (i * 1)).run P w = .ok (.int .u32 (U i)) w := fun U => by
      simp [part, isAgg, run_underlying he, tab_at U i hi]
    have pe : (Op.equalIn (d + 1) e (.int .u32 (U i)) (.int .u32 (T i))).run P w = .ok (U i == T i) w := by
      rw [run_equalIn_int w d e .u32 .u32 _ _ he]
      congr 1
      rw [Bool.eq_iff_iff]; simp; omega
    simp only [List.forIn_cons, Sem.run_bind, px, pe, Result.andThen_ok, List.all_cons]
    cases hb : (U i == T i)
    · simp
    · simp only [Bool.not_true, Bool.false_eq_true, if_false, Sem.run_pure, Result.andThen_ok, Bool.true_and]
      exact ih fun j hj => hl j (by simp [hj])
theorem eq_tabs (w : World) (C D : Array Value) (U T : Nat → Nat) (hC : C = tab U) (hD : D = tab T) : (Op.equalIn 10000 39 (.agg C) (.agg D)).run Try.prog w = .ok (eqT U T) w := by
  rw [hC, hD]; exact run_equalIn_tabs Try.prog w 9998 39 37 Try.underlying39 Try.underlying37 Try.sizeOf37 U T

/-- A build whose cells are said. -/
theorem wpList_build_to {ops : Array Oper} {rest : List Oper} {o : Oper} {a : Act} {w : World} {Q : Exit → Act → World → Prop} (hg : o.guard = none) (t : TypeId) (parts : Array (Nat × Operand)) (ho : o.op = .build t parts)
    (L : List (Nat × Value)) (hL : (parts.map fun (i, x) => (i, a.eval x)).toList = L) (cells : Array Value) (hc : Try.prog.built t L = some cells)
    (h : wpList Try.prog ops Q rest (a.put o.dst (.agg cells)) w) : wpList Try.prog ops Q (o :: rest) a w :=
  wpList_plain hg fun K hK => by
    subst hL
    unfold Oper.wp execOp
    simp only [ho, Sem.run_bind, run_build w t _ cells hc, Result.andThen_ok]
    exact hK _ _ h
/-- '&T{..}': a new variable that holds the value. -/
theorem wpList_box_to {ops : Array Oper} {rest : List Oper} {o : Oper} {a : Act} {w : World} {Q : Exit → Act → World → Prop} (hg : o.guard = none) (t : TypeId) (x : Operand) (ho : o.op = .box t x)
    (cells : Array Value) (hx : (a.eval x).cells = cells)
    (h : wpList Try.prog ops Q rest (a.put o.dst (.pointer (some ⟨w.heap.size, 0, none⟩))) (w.alloc (.cells cells t))) : wpList Try.prog ops Q (o :: rest) a w := by
  subst hx
  refine wpList_plain hg fun K hK => ?_
  unfold Oper.wp execOp
  simp only [ho, Sem.run_bind, Instr.box, newVar, newRow, run_newObj_alloc, Sem.run_pure, Result.andThen_ok]
  exact hK _ _ h
/-- A reader's cells. -/
def rcs (a b c d : Value) : Array Value := #[a, b, c, d] ++ Array.replicate 256 (.int .u32 0)
theorem rcs_size (a b c d : Value) : (rcs a b c d).size = 260 := by simp [rcs]
theorem rcs_tab (a b c d : Value) (j : Nat) (v : Value) (h : (tab (fun _ => 0)).toList[j]? = some v) : (rcs a b c d)[4 + j]? = some v := by
  have hj : j < 256 := by have := (List.getElem?_eq_some_iff.1 h).1; simpa [tab_size] using this
  rw [Array.getElem?_toList, tab_at _ _ hj] at h
  unfold rcs
  rw [Array.getElem?_append_right (by simp)]
  simp only [List.size_toArray, List.length_cons, List.length_nil, Nat.add_sub_cancel_left]
  rw [Array.getElem?_replicate, if_pos hj]
  exact h
theorem built0 : Try.prog.built 92 [] = some (rcs (.pointer none) (.bool false) (.slice none 0 0) (.map none)) := by kernel_rfl
theorem built4 (tb m n c : Nat) (ao : Option Addr) : Try.prog.built 92 [(0, .pointer (some ⟨tb, 0, none⟩)), (1, .bool true), (2, .slice ao n c), (3, .map (some m))] = some (rcs (.pointer (some ⟨tb, 0, none⟩)) (.bool true) (.slice ao n c) (.map (some m))) := by kernel_rfl

/-- How an entry of the map reads: as itself. -/
def HR (v : Value) : Option (DataW Value × List MemPlace) := some (.held v, [])
/-- A block that has nothing. -/
def zb : Value := .agg #[.slice none 0 0, .int .i64 0]
theorem zeroBlock (w : World) : (zeroValue 148).run Try.prog w = .ok zb w := by kernel_rfl
theorem mapKeyed : Keyed Try.prog 3 := int_keyed Try.underlying3
theorem look_held {w : World} {m N : Nat} {D : DataW Value} (h : w.ownsMap Try.prog 3 HR m N D) (q : Int) (hq : (Lit.int .i64 q).wf = true) :
    ((Instr.lookup 90 (.map (some m)) (.int .i64 q) true).run Try.prog w = .ok (.tuple #[zb, .bool false]) w ∧ has D (.int .i64 q) = false) ∨
    ∃ v, (Instr.lookup 90 (.map (some m)) (.int .i64 q) true).run Try.prog w = .ok (.tuple #[v, .bool true]) w ∧ has D (.int .i64 q) = true ∧ D.atKey (.int .i64 q) (.held zb) = .held v := by
  obtain ⟨es, clock, hb, F, _, rfl⟩ := h
  rcases Maps.fit_look true mapKeyed Try.underlying90 (zeroBlock w) hb F (keyOf_int_mk Try.underlying3 hq) with ⟨hrun, _, hat⟩ | ⟨e0, y, _, _, hrun, hRv, hat, _⟩
  · exact .inl ⟨hrun, Maps.has_false_of_atKey hat⟩
  · refine .inr ⟨e0.val, hrun, Maps.has_true_of_atKey hat, ?_⟩
    rw [hat]
    simp [HR] at hRv
    rw [← hRv]
/-- 'clear(m)'. -/
theorem wpList_clear_own {w : World} {ops : Array Oper} {rest : List Oper} {o : Oper} {a : Act} {Q : Exit → Act → World → Prop} (hg : o.guard = none) (x : Operand)
    (hop : o.op = Op.call { callee := Callee.builtin Builtin.clear, args := #[x], argTypes := #[90] }) (m N : Nat) (D : DataW Value) (hx : a.eval x = .map (some m)) (hown : w.ownsMap Try.prog 3 HR m N D)
    (h : ∀ w', w'.ownsMap Try.prog 3 HR m 0 (.map []) → w.grownBy w' (some m) → wpList Try.prog ops Q rest (a.put o.dst (.tuple #[])) w') : wpList Try.prog ops Q (o :: rest) a w := by
  obtain ⟨es, clock, hb, F, hs, rfl⟩ := hown
  refine wpList_plain hg fun K hK => ?_
  have hrun : (Builtin.clear_ #[90] o.type #[.map (some m)]).run Try.prog w = .ok (.tuple #[]) (setBlock w m (.map #[] clock)) := by
    simp [Builtin.clear_, run_underlying Try.underlying90, MapKept.run_getObj_map hb, MapKept.run_setObj_map _ hb, Result.andThen, setBlock]
  unfold Oper.wp
  simp [execOp, hop, resolve, invoke, builtin, hx, hrun, Result.andThen]
  refine hK _ _ (h _ ⟨#[], clock, heap_setBlock_same hb _, ⟨by simp, stamped_empty clock, by simp⟩, Nat.le_refl _, rfl⟩ ⟨rfl, rfl, rfl, by simp [setBlock], fun i _ hi => heap_setBlock_other hb _ (fun e => hi (by rw [e]))⟩)

/-- The reader's block. -/
def Rb (w : World) (p tb : Nat) (fo : Option Addr) (fn fc m : Nat) (U : Nat → Nat) : Prop :=
  (∃ cur, w.heap[p]? = some (.cells cur 92 (0, 0))) ∧ w.cell? ⟨p, 0, none⟩ = some (.pointer (some ⟨tb, 0, none⟩)) ∧ w.cell? ⟨p, 1, none⟩ = some (.bool true) ∧ w.cell? ⟨p, 2, none⟩ = some (.slice fo fn fc) ∧ w.cell? ⟨p, 3, none⟩ = some (.map (some m)) ∧ w.rangeAt p 4 (tab U).toList
section
variable {w w' : World} {p tb fn fc m : Nat} {fo : Option Addr} {U : Nat → Nat}
theorem Rb.lt (h : Rb w p tb fo fn fc m U) : p < w.heap.size := by obtain ⟨⟨cur, h⟩, _⟩ := h; exact heap_lt h
theorem Rb.fr {S : Nat → Prop} (h : Rb w p tb fo fn fc m U) (hf : Fr S w w') (hn : ¬ S p) : Rb w' p tb fo fn fc m U := by
  have hl := h.lt
  obtain ⟨⟨cur, h0⟩, h1, h2, h3, h4, h5⟩ := h
  have hc : ∀ i, w'.cell? ⟨p, i, none⟩ = w.cell? ⟨p, i, none⟩ := fun i => hf.cell (q := ⟨p, i, none⟩) hl hn
  exact ⟨⟨cur, (hf.block p hl hn).trans h0⟩, (hc 0).trans h1, (hc 1).trans h2, (hc 2).trans h3, (hc 3).trans h4, fun j v hv => (hc (4 + j)).trans (h5 j v hv)⟩
theorem Rb.there (h : Rb w p tb fo fn fc m U) : w.there p 4 256 := fun j hj => by
  obtain ⟨⟨cur, h0⟩, h1, h2, h3, h4, h5⟩ := h
  refine ⟨?_, by simp [World.frozen?, h0]⟩
  rw [h5 j (.int .u32 (U j)) (by rw [Array.getElem?_toList]; exact tab_at U j hj)]; rfl
theorem Rb.set (h : Rb w p tb fo fn fc m U) (T : Nat → Nat) : Rb (w.setCells p 4 (tab T).toList) p tb fo fn fc m T := by
  have ht := h.there
  obtain ⟨⟨cur, h0⟩, h1, h2, h3, h4, h5⟩ := h
  have hc : ∀ i, i < 4 → (w.setCells p 4 (tab T).toList).cell? ⟨p, i, none⟩ = w.cell? ⟨p, i, none⟩ := fun i hi => World.cell?_setCells_out p _ _ _ _ (fun _ _ => .inl hi)
  refine ⟨heap_setCells_self _ _ _ _ h0, (hc 0 (by omega)).trans h1, (hc 1 (by omega)).trans h2, (hc 2 (by omega)).trans h3, (hc 3 (by omega)).trans h4, World.rangeAt_setCells_same _ _ _ _ ?_⟩
  rw [Array.length_toList, tab_size]; exact ht
end
/-- What a frame that was taken holds, as the map has it. -/
def En (w : World) (O : Nat → Prop) (p m : Nat) (T : Nat → Nat) (X : List Int) (q : Int) (v : Value) : Prop :=
  ∃ ao n c, v = .agg #[.slice ao n c, .int .i64 (take T X q).2.1] ∧ (take T X q).2.2 = 0 ∧ Bs w ao n (take T X q).1 ∧ n ≤ c ∧ c ≤ 9223372036854775807 ∧ (ao = none → c = 0) ∧ ∀ a, ao = some a → 0 < n → O a.block ∧ a.block ≠ p ∧ a.block ≠ m
theorem En.fr {S : Nat → Prop} {w w' : World} {O : Nat → Prop} {p m : Nat} {T : Nat → Nat} {X : List Int} {q : Int} {v : Value} (h : En w O p m T X q v) (hf : Fr S w w') (hn : ∀ k, O k → k ≠ p → k ≠ m → ¬ S k) : En w' O p m T X q v := by
  obtain ⟨ao, n, c, h1, h2, h3, h4, h5, h6, h7⟩ := h
  exact ⟨ao, n, c, h1, h2, h3.fr hf (fun a ha h0 => hn _ (h7 a ha h0).1 (h7 a ha h0).2.1 (h7 a ha h0).2.2), h4, h5, h6, h7⟩
theorem En.mono {w : World} {O O' : Nat → Prop} {p m : Nat} {T : Nat → Nat} {X : List Int} {q : Int} {v : Value} (h : En w O p m T X q v) (hn : ∀ k, O k → O' k) : En w O' p m T X q v := by
  obtain ⟨ao, n, c, h1, h2, h3, h4, h5, h6, h7⟩ := h
  exact ⟨ao, n, c, h1, h2, h3, h4, h5, h6, fun a ha h0 => ⟨hn _ (h7 a ha h0).1, (h7 a ha h0).2⟩⟩
/-- The reader of the bytes X by the table T; O: the blocks that are its own; N: at most so many frames were taken. -/
structure RdM' (w : World) (p : Nat) (O : Nat → Prop) (tb : Nat) (T : Nat → Nat) (X : List Int) (N : Nat) (fo : Option Addr) (fn fc m : Nat) (U : Nat → Nat) (D : DataW Value) : Prop where
  rb : Rb w p tb fo fn fc m U
  op : O p
  om : O m
  bs : Bs w fo fn X
  cap : fn ≤ fc
  max : fc ≤ 9223372036854775807
  nil : fo = none → fc = 0
  own : ∀ a, fo = some a → O a.block ∧ a.block ≠ p ∧ a.block ≠ m
  map : w.ownsMap Try.prog 3 HR m N D
  sums : D = .map [] ∨ ∀ i, i < 256 → U i = T i
  lt : ∀ k, O k → k < w.heap.size
  ents : ∀ q : Int, has D (.int .i64 q) = true → ∃ v, D.atKey (.int .i64 q) (.held zb) = .held v ∧ En w O p m T X q v
def RdM (w : World) (p : Nat) (O : Nat → Prop) (tb : Nat) (T : Nat → Nat) (X : List Int) (N : Nat) : Prop := ∃ fo fn fc m U D, RdM' w p O tb T X N fo fn fc m U D
section
variable {w w' : World} {p tb N fn fc m : Nat} {O : Nat → Prop} {T U : Nat → Nat} {X : List Int} {fo : Option Addr} {D : DataW Value}
theorem RdM'.ne (h : RdM' w p O tb T X N fo fn fc m U D) : m ≠ p := fun e => by
  obtain ⟨⟨cur, h0⟩, _⟩ := h.rb
  obtain ⟨es, clock, hb, _⟩ := h.map
  rw [e, h0] at hb; simp at hb
theorem ownsMap_fr {S : Nat → Prop} {w w' : World} {m N : Nat} {D : DataW Value} (h : w.ownsMap Try.prog 3 HR m N D) (hf : Fr S w w') (hn : ¬ S m) : w'.ownsMap Try.prog 3 HR m N D := by
  obtain ⟨es, clock, hb, r⟩ := h
  exact ⟨es, clock, (hf.block m (heap_lt hb) hn).trans hb, r⟩
theorem RdM'.fr {S : Nat → Prop} (h : RdM' w p O tb T X N fo fn fc m U D) (hf : Fr S w w') (hn : ∀ k, O k → ¬ S k) : RdM' w' p O tb T X N fo fn fc m U D :=
  ⟨h.rb.fr hf (hn _ h.op), h.op, h.om, h.bs.fr hf (fun a ha _ => hn _ (h.own a ha).1), h.cap, h.max, h.nil, h.own, ownsMap_fr h.map hf (hn _ h.om), h.sums, fun k hk => Nat.lt_of_lt_of_le (h.lt k hk) hf.size, fun q hq => by
    obtain ⟨v, h1, h2⟩ := h.ents q hq
    exact ⟨v, h1, h2.fr hf (fun k hk _ _ => hn k hk)⟩⟩
theorem RdM.fr {S : Nat → Prop} (h : RdM w p O tb T X N) (hf : Fr S w w') (hn : ∀ k, O k → ¬ S k) : RdM w' p O tb T X N := by
  obtain ⟨fo, fn, fc, m, U, D, h⟩ := h
  exact ⟨fo, fn, fc, m, U, D, h.fr hf hn⟩
theorem RdM.below (h : RdM w p O tb T X N) (hb : Below w.heap.size w w') : RdM w' p O tb T X N := h.fr (Fr.of_below (S := fun _ => False) hb) (fun _ _ h => h)
theorem RdM.mono {N' : Nat} (h : RdM w p O tb T X N) (hn : N ≤ N') : RdM w p O tb T X N' := by
  obtain ⟨fo, fn, fc, m, U, D, h⟩ := h
  exact ⟨fo, fn, fc, m, U, D, h.rb, h.op, h.om, h.bs, h.cap, h.max, h.nil, h.own, h.map.mono hn, h.sums, h.lt, h.ents⟩
/-- The map was cleared and the table laid down. -/
theorem RdM'.cleared {w1 : World} (h : RdM' w p O tb T X N fo fn fc m U D) (hm : w1.ownsMap Try.prog 3 HR m 0 (.map [])) (hg : w.grownBy w1 (some m)) : RdM' (w1.setCells p 4 (tab T).toList) p O tb T X 0 fo fn fc m T (.map []) ∧ Fr O w (w1.setCells p 4 (tab T).toList) ∧ Rb w1 p tb fo fn fc m U := by
  have f1 : Fr (One m) w w1 := Fr.of_grown hg (fun k hk => by cases hk; rfl)
  have r1 := h.rb.fr f1 (fun e => h.ne e.symm)
  have f2 : Fr (One p) w1 (w1.setCells p 4 (tab T).toList) := Fr.of_setCells _ _ _ _ _ rfl
  have fO : Fr O w (w1.setCells p 4 (tab T).toList) := (f1.mono (fun i _ (hi : i = m) => by rw [hi]; exact h.om)).trans f2 (fun i _ (hi : i = p) => by rw [hi]; exact h.op)
  refine ⟨⟨r1.set T, h.op, h.om, ?_, h.cap, h.max, h.nil, h.own, ownsMap_fr hm f2 h.ne, .inl rfl, fun k hk => Nat.lt_of_lt_of_le (h.lt k hk) fO.size, fun q hq => by simp [has] at hq⟩, fO, r1⟩
  exact (h.bs.fr f1 (fun a ha _ e => (h.own a ha).2.2 e)).fr f2 (fun a ha _ e => (h.own a ha).2.1 e)
/-- A frame more was taken. -/
theorem RdM'.stored {w1 w2 : World} {ao : Option Addr} {n c : Nat} {q : Int} (h : RdM' w p O tb T X N fo fn fc m U D) (hU : ∀ i, i < 256 → U i = T i) (hb : Below w.heap.size w w1) (h0 : (take T X q).2.2 = 0) (hB : Fresh w w1 ao n c (take T X q).1)
    (hm : w2.ownsMap Try.prog 3 HR m (N + 1) (D.put (.int .i64 q) (.held (.agg #[.slice ao n c, .int .i64 (take T X q).2.1])))) (hg : w1.grownBy w2 (some m)) :
    ∃ O', RdM w2 p O' tb T X (N + 1) ∧ Fr O w w2 ∧ Gr O O' w ∧ En w2 O' p m T X q (.agg #[.slice ao n c, .int .i64 (take T X q).2.1]) := by
  have f0 : Fr (fun _ => False) w w1 := Fr.of_below hb
  have h1 := h.fr f0 (fun _ _ => id)
  have f1 : Fr (One m) w1 w2 := Fr.of_grown hg (fun k hk => by cases hk; rfl)
  have hpl := h.rb.lt
  have hml := h.map.lt
  have hE : En w2 (fun k => O k ∨ (w.heap.size ≤ k ∧ k < w2.heap.size)) p m T X q (.agg #[.slice ao n c, .int .i64 (take T X q).2.1]) :=
    ⟨ao, n, c, rfl, h0, hB.bs.fr f1 (fun a ha _ e => by have := hB.new a ha; have e' : a.block = m := e; omega), hB.cap, hB.max, hB.nil, fun a ha hn0 => by
      have hnew := hB.new a ha
      refine ⟨.inr ⟨hnew, ?_⟩, by omega, by omega⟩
      rcases hB.bs.2.2 with h | ⟨b, off, h3, h4, _⟩
      · omega
      · rw [ha] at h3
        obtain rfl := Option.some.inj h3
        exact Nat.lt_of_lt_of_le h4 hg.size⟩
  refine ⟨fun k => O k ∨ (w.heap.size ≤ k ∧ k < w2.heap.size), ⟨fo, fn, fc, m, U, _, ⟨h1.rb.fr f1 (fun e => h.ne e.symm), .inl h.op, .inl h.om, h1.bs.fr f1 (fun a ha _ e => (h.own a ha).2.2 e), h.cap, h.max, h.nil, fun a ha => ⟨.inl (h.own a ha).1, (h.own a ha).2⟩, hm, .inr hU, fun k hk => ?_, fun k hk => ?_⟩⟩,
    (f0.mono (S' := O) (fun _ _ h => h.elim)).trans f1 (fun i _ (hi : i = m) => by rw [hi]; exact h.om), fun k hk => hk.imp id (fun h => h.1), hE⟩
  · have := hb.size
    have := hg.size
    rcases hk with hk | hk
    · have := h.lt k hk; omega
    · exact hk.2
  by_cases e : k = q
  · subst e
    refine ⟨_, ?_, hE⟩
    exact atKey_put_same (k := .int .i64 k) h.map.isMap (by simp [WideAt.IsKeyLit]) _ _
  · rw [has_put_other (by simpa using e)] at hk
    obtain ⟨v, v1, v2⟩ := h1.ents k hk
    refine ⟨v, ?_, (v2.fr f1 (fun _ _ _ hm' e' => hm' e')).mono (fun _ => .inl)⟩
    rw [atKey_put_other (by simpa using e)]; exact v1
end
end Go.Proofs.Ytgkclldiphcogaa

/- The walk of Open. -/
namespace Go.Proofs.Ytgkclldiphcogaa
set_option linter.unusedVariables false
open Go.RowKit Go.Maps
open Lz (g)
open Crc (ent)
open Frm Mtr

/-- A reader of places that may not be. -/
def Rx (w : World) (p : Nat) : Prop := p < w.heap.size ∧ w.cell? ⟨p, 1, none⟩ = some (.bool false)
theorem Rx.below {w w' : World} {p : Nat} (h : Rx w p) (hb : Below w.heap.size w w') : Rx w' p := ⟨Nat.lt_of_lt_of_le h.1 hb.size, (hb.cell (p := ⟨p, 1, none⟩) h.1).trans h.2⟩

theorem cells0 : Try.zeroCells92 = rcs (.pointer none) (.bool false) (.slice none 0 0) (.map none) := by kernel_rfl
theorem cells4 (tb m n c : Nat) (ao : Option Addr) : ((((Try.zeroCells92.setIfInBounds 0 (.pointer (some ⟨tb, 0, none⟩))).setIfInBounds 1 (.bool true)).setIfInBounds 2 (.slice ao n c)).setIfInBounds 3 (.map (some m))) = rcs (.pointer (some ⟨tb, 0, none⟩)) (.bool true) (.slice ao n c) (.map (some m)) := by kernel_rfl
theorem open_not (w : World) : Rx (w.alloc (.cells (rcs (.pointer none) (.bool false) (.slice none 0 0) (.map none)) 92)) w.heap.size :=
  ⟨by simp, by rw [cell_of_row _ _ 1 _ _ _ (heap_alloc_new w _)]; simp [rcs]⟩
theorem open_rd {w w1 : World} {tb n c : Nat} {ao : Option Addr} {X : List Int} {T : Nat → Nat} (hA : Rw w1 w.heap.size ao n c X) (hb : Below w.heap.size w w1) (hn : n ≤ 1000000) :
    RdM ((w1.alloc (.map #[] 0)).alloc (.cells (rcs (.pointer (some ⟨tb, 0, none⟩)) (.bool true) (.slice ao n c) (.map (some w1.heap.size))) 92)) (w1.heap.size + 1) (fun k => w.heap.size ≤ k ∧ k < ((w1.alloc (.map #[] 0)).alloc (.cells (rcs (.pointer (some ⟨tb, 0, none⟩)) (.bool true) (.slice ao n c) (.map (some w1.heap.size))) 92)).heap.size) tb T X 0 := by
  have hs : (w1.alloc (.map #[] 0)).heap.size = w1.heap.size + 1 := by simp
  have hh := heap_alloc_new (w1.alloc (.map #[] 0)) (.cells (rcs (.pointer (some ⟨tb, 0, none⟩)) (.bool true) (.slice ao n c) (.map (some w1.heap.size))) 92)
  rw [hs] at hh
  have hm := hA.2.2.2.1
  unfold maxLen at hm
  have hsz := hb.size
  refine ⟨ao, n, c, w1.heap.size, fun _ => 0, .map [], ⟨⟨⟨_, hh⟩, ?_, ?_, ?_, ?_, fun j v hv => ?_⟩, ⟨by omega, by simp⟩, ⟨hsz, by simp; omega⟩, (hA.bs.alloc _).alloc _, hA.2.2.1, by omega, hA.nil, fun a ha => ?_, (World.ownsMap_made w1 _ _ _).alloc _, .inl rfl, fun k hk => hk.2, fun q hq => by simp [has] at hq⟩⟩
  · rw [cell_of_row _ _ 0 _ _ _ hh]; simp [rcs]
  · rw [cell_of_row _ _ 1 _ _ _ hh]; simp [rcs]
  · rw [cell_of_row _ _ 2 _ _ _ hh]; simp [rcs]
  · rw [cell_of_row _ _ 3 _ _ _ hh]; simp [rcs]
  · rw [cell_of_row _ _ (4 + j) _ _ _ hh]; exact rcs_tab _ _ _ _ j v hv
  · obtain ⟨h1, h2, _⟩ := hA.own (k := a.block) (by rw [ha]; rfl)
    exact ⟨⟨h1, by simp; omega⟩, by omega, by omega⟩

set_option maxRecDepth 100000 in
set_option maxHeartbeats 400000 in
theorem Open_any (tb n c : Nat) (ao : Option Addr) (zs : List Int) (T : Nat → Nat) (w : World) (a b : Int) (hb : Bs w ao n zs) (hc : n ≤ c) (hcm : c ≤ 9223372036854775807) (hnil : ao = none → c = 0) (hn : n ≤ 1000000)
    (ha : -9223372036854775808 ≤ a ∧ a ≤ 9223372036854775807) (hb' : -9223372036854775808 ≤ b ∧ b ≤ 9223372036854775807) (h : 0 ≤ a ∧ a ≤ b ∧ b ≤ n) :
    Calls Try.prog 18 #[.pointer (some ⟨tb, 0, none⟩), .slice ao n c, .int .i64 a, .int .i64 b] w fun r w' => ∃ p, r = .returned (.pointer (some ⟨p, 0, none⟩)) ∧ RdM w' p (fun k => w.heap.size ≤ k ∧ k < w'.heap.size) tb T ((zs.take b.toNat).drop a.toNat) 0 ∧ Below w.heap.size w w' := by
  obtain ⟨i, rfl⟩ : ∃ i : Nat, a = i := ⟨a.toNat, by omega⟩
  obtain ⟨j, rfl⟩ : ∃ j : Nat, b = j := ⟨b.toNat, by omega⟩
  have hij : i ≤ j := by omega
  have hjn : j ≤ n := by omega
  have g1 : ((i : Int) < 0) = False := by simp
  have g2 : decide ((n : Int) < (j : Int)) = false := by simp; omega
  have g3 : decide ((j : Int) < (i : Int)) = false := by simp; omega
  have g4 : (i : Int) ≤ (j : Int) := by omega
  have g5 : (j : Int) ≤ (c : Int) := by omega
  have hmm := @run_makeMap Try.prog
  have hcut : Bs w (if c = i then ao else Option.map (fun x => x.add i) ao) (j - i) ((zs.take j).drop i) := by
    have h1 := (hb.take j hjn).toB
    exact (h1.rest i hij (by omega)).bs (Nat.le_refl _)
  have hnil2 : (if c = i then ao else Option.map (fun x => x.add i) ao) = none → c - i = 0 := by
    intro e
    by_cases e1 : c = i
    · omega
    · rw [if_neg e1] at e
      have := hnil (by simpa using e)
      omega
  have HC := hide (CloneRw_any (j - i) (c - i) _ ((zs.take j).drop i) w hcut (by omega) hnil2 (by omega))
  have HL := hide hcut.1
  clear hcut hnil2 hb
  simp only [Int.toNat_natCast]
  generalize (zs.take j).drop i = X at *
  by_cases e : c = i
  · subst e
    rw [if_pos rfl, Nat.sub_self] at HC
    go_enter Try.func18, Try.ntmps18
    go_wp2_with fail
    refine HC.out.mono ?_
    rintro r w1 ⟨ao1, k1, rfl, hA, hb1⟩
    have HA := hide hA
    have HB1 := hide hb1
    clear hA hb1 HC
    go_wp2
    go_ret
    refine ⟨w1.heap.size + 1, by simp, ?_, ?_⟩
    · rw [cells4]; exact open_rd HA.out HB1.out (by omega)
    · exact (HB1.out.alloc HB1.out.size _).alloc (Nat.le_trans HB1.out.size (by simp)) _
  · rw [if_neg e] at HC
    go_enter Try.func18, Try.ntmps18
    go_wp2_with fail
    refine HC.out.mono ?_
    rintro r w1 ⟨ao1, k1, rfl, hA, hb1⟩
    have HA := hide hA
    have HB1 := hide hb1
    clear hA hb1 HC
    go_wp2
    go_ret
    refine ⟨w1.heap.size + 1, by simp, ?_, ?_⟩
    · rw [cells4]; exact open_rd HA.out HB1.out (by omega)
    · exact (HB1.out.alloc HB1.out.size _).alloc (Nat.le_trans HB1.out.size (by simp)) _

set_option maxRecDepth 100000 in
theorem OpenNot_any (tb n c : Nat) (ao : Option Addr) (w : World) (a b : Int) (hc : n ≤ c) (hcm : c ≤ 9223372036854775807)
    (ha : -9223372036854775808 ≤ a ∧ a ≤ 9223372036854775807) (hb' : -9223372036854775808 ≤ b ∧ b ≤ 9223372036854775807) (h : ¬ (0 ≤ a ∧ a ≤ b ∧ b ≤ n)) :
    Calls Try.prog 18 #[.pointer (some ⟨tb, 0, none⟩), .slice ao n c, .int .i64 a, .int .i64 b] w fun r w' => ∃ p, r = .returned (.pointer (some ⟨p, 0, none⟩)) ∧ w.heap.size ≤ p ∧ Rx w' p ∧ Below w.heap.size w w' := by
  have hq : a < 0 ∨ (0 ≤ a ∧ (n : Int) < b) ∨ (0 ≤ a ∧ b ≤ n ∧ b < a) := by omega
  rcases hq with h1 | ⟨h1, h2⟩ | ⟨h1, h2, h3⟩
  · go_enter Try.func18, Try.ntmps18
    go_wp2
    go_ret
    exact ⟨w.heap.size, rfl, Nat.le_refl _, by rw [cells0]; exact open_not w, (Below.refl _ _).alloc (Nat.le_refl _) _⟩
  · have e1 : decide (a < 0) = false := by simp; omega
    go_enter Try.func18, Try.ntmps18
    go_wp2
    go_ret
    exact ⟨w.heap.size, rfl, Nat.le_refl _, by rw [cells0]; exact open_not w, (Below.refl _ _).alloc (Nat.le_refl _) _⟩
  · have e1 : decide (a < 0) = false := by simp; omega
    have e2 : decide ((n : Int) < b) = false := by simp; omega
    go_enter Try.func18, Try.ntmps18
    go_wp2
    go_ret
    exact ⟨w.heap.size, rfl, Nat.le_refl _, by rw [cells0]; exact open_not w, (Below.refl _ _).alloc (Nat.le_refl _) _⟩
end Go.Proofs.Ytgkclldiphcogaa

/- The walk of the reader's take: what frame.Take tells of a place, out of the map or asked. -/
namespace Go.Proofs.Ytgkclldiphcogaa
set_option linter.unusedVariables false
open Go.RowKit Go.Maps
open Lz (g)
open Crc (ent)
open Frm Mtr

theorem tb_range {w : World} {b : Nat} {T : Nat → Nat} (h : Tb w b T) : w.rangeAt b 0 (tab T).toList := fun j v hv => by
  have hj : j < 256 := by have := (List.getElem?_eq_some_iff.1 hv).1; simpa [tab_size] using this
  rw [Array.getElem?_toList, tab_at T j hj] at hv
  rw [Nat.zero_add, h j hj]; exact hv
section
variable {ops : Array Oper} {C : World → Prop} {Q : Act → Prop} {a : Act} {o : Oper} {rest : List Oper}
/-- One operation of a region that only reads, whose value is said. -/
theorem wpQuiet_val (v : Value) (hw : Region.wanted o (yielded ops a.tmps) = true) (hrun : ∀ w, C w → (execOp a.eval o).run Try.prog w = .ok (.value v) w) (h : wpQuiet Try.prog ops C Q rest (a.put o.dst v)) : wpQuiet Try.prog ops C Q (o :: rest) a :=
  BigFrame.wpQuiet_want hw fun K hK => ⟨v, fun w hw => by unfold Oper.quietAt; rw [hrun w hw]; exact ⟨rfl, rfl⟩, hK _ h⟩
/-- A whole table is loaded. -/
theorem wpQuiet_table (hw : Region.wanted o (yielded ops a.tmps) = true) (x : Operand) (ho : o.op = .load 39 x) (b f : Nat) (hx : a.eval x = .pointer (some ⟨b, f, none⟩)) (T : Nat → Nat) (A : Array Value) (hA : A = tab T) (hC : ∀ w, C w → w.rangeAt b f (tab T).toList)
    (h : wpQuiet Try.prog ops C Q rest (a.put o.dst (.agg A))) : wpQuiet Try.prog ops C Q (o :: rest) a := by
  obtain ⟨hz, hi'⟩ := zero_of_info infoTable
  refine wpQuiet_val (.agg A) hw (fun w hw => ?_) h
  have := run_loadVar_mid (P := Try.prog) w b f 39 (tab T).toList _ (hC w hw) Try.underlying39 rfl (by rw [Array.length_toList, tab_size]; exact hi')
  unfold execOp
  simp only [ho, hx, Instr.loadAt, Instr.sureAddr, Sem.run_bind, Sem.run_pure, Result.andThen_ok, this]
  rw [hA]
/-- Two tables are held against each other. -/
theorem wpQuiet_neq (hw : Region.wanted o (yielded ops a.tmps) = true) (x y : Operand) (t : TypeId) (ho : o.op = .binOp .neq 39 x y t) (A B : Array Value) (U T : Nat → Nat) (hx : a.eval x = .agg A) (hy : a.eval y = .agg B) (hA : A = tab U) (hB : B = tab T) (v : Bool) (hv : (!eqT U T) = v)
    (h : wpQuiet Try.prog ops C Q rest (a.put o.dst (.bool v))) : wpQuiet Try.prog ops C Q (o :: rest) a := by
  refine wpQuiet_val (.bool v) hw (fun w _ => ?_) h
  have hg : Try.prog.eqGuardType Try.prog.depth 39 = false := by kernel_rfl
  have hgd : (eqGuard .neq 39 x y (.agg A) (.agg B)).run Try.prog w = .ok () w := by simp [eqGuard, hg]
  have heq : (binOp .neq 39 (.agg A) (.agg B)).run Try.prog w = .ok (.bool v) w := by
    rw [run_neq_struct, eq_tabs w A B U T hA hB]
    simp [Result.andThen, hv]
  unfold execOp
  simp only [ho, hx, hy, Sem.run_bind, Sem.run_pure, hgd, Result.andThen_ok, heq]
end
/-- Two results, the first of them a block in a variable of its own. -/
theorem results_b2 {fn : Func} {p u : Tmp} (h : fn.results = #[.cell p 148, .tmp u]) (tmps : Array Value) (w : World) (q n c : Nat) (ao : Option Addr) (nx : Int) (hp : tmps.getD p undef = .pointer (some ⟨q, 0, none⟩)) (hq : w.heap[q]? = some (.cells #[.slice ao n c, .int .i64 nx] 148 (0, 0))) :
    (results fn tmps).run Try.prog w = .ok (.tuple #[.agg #[.slice ao n c, .int .i64 nx], tmps.getD u undef]) w := by
  have h0 : w.cell? ⟨q, 0, none⟩ = some (.slice ao n c) := by rw [cell_of_row _ _ 0 _ _ _ hq]; rfl
  have h1 : w.cell? ⟨q, 1, none⟩ = some (.int .i64 nx) := by rw [cell_of_row _ _ 1 _ _ _ hq]; rfl
  simp only [results, h]
  rw [Array.getD_eq_getD_getElem?] at hp
  go_simp
theorem two_set {w : World} {b : Nat} {x y : Value} {t : TypeId} (h : w.heap[b]? = some (.cells #[x, y] t (0, 0))) (v u : Value) : ((w.setCell ⟨b, 0, none⟩ v).setCell ⟨b, 1, none⟩ u).heap[b]? = some (.cells #[v, u] t (0, 0)) := by
  rw [heap_setCell_self (heap_setCell_self h v) u]; rfl
theorem two_set_alloc {w : World} {b : Nat} {x y : Value} {t : TypeId} (h : w.heap[b]? = some (.cells #[x, y] t (0, 0))) (v u : Value) (o : Obj) : (((w.setCell ⟨b, 0, none⟩ v).setCell ⟨b, 1, none⟩ u).alloc o).heap[b]? = some (.cells #[v, u] t (0, 0)) := by
  have := two_set h v u
  rw [Below.heap_alloc _ _ _ (heap_lt this)]; exact this
/-- What take answers. -/
def Gets (w w' : World) (p tb N : Nat) (O : Nat → Prop) (T : Nat → Nat) (X : List Int) (q : Int) (r : Ending) : Prop :=
  ∃ O', RdM w' p O' tb T X (N + 1) ∧ Fr O w w' ∧ Gr O O' w ∧
    (((take T X q).2.2 ≠ 0 ∧ r = .returned (.tuple #[zb, .bool false])) ∨
     ((take T X q).2.2 = 0 ∧ ∃ m ao n c, r = .returned (.tuple #[.agg #[.slice ao n c, .int .i64 (take T X q).2.1], .bool true]) ∧ En w' O' p m T X q (.agg #[.slice ao n c, .int .i64 (take T X q).2.1])))

set_option maxRecDepth 100000 in
set_option maxHeartbeats 400000 in
/-- It was taken. -/
theorem take_had (p tb N fn fc m : Nat) (O : Nat → Prop) (T U : Nat → Nat) (X : List Int) (fo : Option Addr) (D : DataW Value) (q : Int) (w : World) (h : RdM' w p O tb T X N fo fn fc m U D) (hT : Tb w tb T) (htb : tb < w.heap.size)
    (hq : 0 ≤ q ∧ q ≤ 9223372036854775807) (hh : has D (.int .i64 q) = true) (he : eqT U T = true) :
    Calls Try.prog 93 #[.pointer (some ⟨p, 0, none⟩), .int .i64 q] w fun r w' => Gets w w' p tb N O T X q r := by
  obtain ⟨C, hC⟩ : ∃ C, C = tab T := ⟨_, rfl⟩
  obtain ⟨CU, hCU⟩ : ∃ CU, CU = tab U := ⟨_, rfl⟩
  obtain ⟨w1, hw1⟩ : ∃ w1, w1 = w.alloc (.cells #[.slice none 0 0, .int .i64 0] 148) := ⟨_, rfl⟩
  have hb1 : Below w.heap.size w w1 := by rw [hw1]; exact (Below.refl _ _).alloc (Nat.le_refl _) _
  have h1 := h.fr (Fr.of_below (S := fun _ => False) hb1) (fun _ _ => id)
  have hT1 := hT.below hb1 htb
  have rU : ∀ w', (∃ n, w' = w1.drewN n) → w'.rangeAt p 4 (tab U).toList := fun w' hn j v hv => by obtain ⟨n, rfl⟩ := hn; rw [← h1.rb.2.2.2.2.2 j v hv]; simp
  have rC : ∀ w', (∃ n, w' = w1.drewN n) → w'.rangeAt tb 0 (tab T).toList := fun w' hn j v hv => by obtain ⟨n, rfl⟩ := hn; rw [← tb_range hT1 j v hv]; simp
  have c0 := h1.rb.2.1
  have c3 := h1.rb.2.2.2.2.1
  have hs1 : w1.heap.size = w.heap.size + 1 := by rw [hw1]; simp
  have hq0 : w1.heap[w.heap.size]? = some (.cells #[.slice none 0 0, .int .i64 0] 148 (0, 0)) := by rw [hw1]; exact heap_alloc_new w _
  have q0 : w1.cell? ⟨w.heap.size, 0, none⟩ = some (.slice none 0 0) := by rw [cell_of_row _ _ 0 _ _ _ hq0]; rfl
  have q1 : w1.cell? ⟨w.heap.size, 1, none⟩ = some (.int .i64 0) := by rw [cell_of_row _ _ 1 _ _ _ hq0]; rfl
  have f0 : w1.frozen? ⟨w.heap.size, 0, none⟩ = false := by simp [World.frozen?, hq0]
  have f1 : w1.frozen? ⟨w.heap.size, 1, none⟩ = false := by simp [World.frozen?, hq0]
  have HQ0 := hide hq0
  have HH := hide h
  obtain ⟨v, hv, hE0⟩ := h.ents q hh
  have hE := hE0.fr (Fr.of_below (S := fun _ => False) hb1) (fun _ _ _ _ => id)
  have HEn := hide hE0
  obtain ⟨ao, n, c, hve, ht0, hBs, hcap, hmax, hnil, hown⟩ := hE
  have hwf : (Lit.int .i64 q).wf = true := WalkArith.wf_i64 (by omega)
  have hrun : ∀ nq, (Instr.lookup 90 (.map (some m)) (.int .i64 q) true).run Try.prog (w1.drewN nq) = .ok (.tuple #[.agg #[.slice ao n c, .int .i64 (take T X q).2.1], .bool true]) (w1.drewN nq) := fun nq => by
    rcases look_held (w := w1.drewN nq) h1.map q hwf with ⟨_, e⟩ | ⟨v', e1, _, e3⟩
    · rw [e] at hh; simp at hh
    · rw [hv] at e3
      have : v = v' := by simpa using e3
      rw [e1, ← this, hve]
  subst hve
  have HW := hide hw1
  have HC := hide hC
  have HCU := hide hCU
  have HRU := hide rU
  have HRC := hide rC
  have HE := hide (show (!eqT U T) = false by rw [he]; rfl)
  clear hw1 hC hCU rU rC hT hT1 h he hq0 hv hE0
  go_enter Try.func93, Try.ntmps93
  go_wp2_with fail
  rw [← HW.out]
  refine wp_region_quiet_lit (by kernel_rfl) (by kernel_rfl) ?_
  iterate 3 go_big_quiet_step (fail)
  refine wpQuiet_table (by rfl) _ rfl p 4 rfl U CU HCU.out HRU.out ?_
  simp only [Act.put, List.setIfInBounds_toArray, List.set_cons_zero, List.set_cons_succ]
  iterate 5 go_big_quiet_step (fail)
  refine wpQuiet_table (by rfl) _ rfl tb 0 rfl T C HC.out HRC.out ?_
  simp only [Act.put, List.setIfInBounds_toArray, List.set_cons_zero, List.set_cons_succ]
  refine wpQuiet_neq (by rfl) _ _ _ rfl CU C U T rfl rfl HCU.out HC.out false HE.out ?_
  simp only [Act.put, List.setIfInBounds_toArray, List.set_cons_zero, List.set_cons_succ]
  refine wpQuiet_nil ?_
  intro _ hw'
  obtain ⟨nq, hw''⟩ := hw'
  subst hw''
  go_wp2_with fail
  have hbW : Below w.heap.size w ((((w1.drewN nq).setCell ⟨w.heap.size, 0, none⟩ (.slice ao n c)).setCell ⟨w.heap.size, 1, none⟩ (.int .i64 (take T X q).2.1)).alloc (.cells #[.slice ao n c, .int .i64 (take T X q).2.1] 148)) := by
    have e1 := below_drewN hb1 nq
    have e2 := (e1.setCell (p := ⟨w.heap.size, 0, none⟩) (Nat.le_refl _) (.slice ao n c)).setCell (p := ⟨w.heap.size, 1, none⟩) (Nat.le_refl _) (.int .i64 (take T X q).2.1)
    exact e2.alloc e2.size _
  refine bodyPost_ret (results_b2 rfl _ _ w.heap.size n c ao (take T X q).2.1 rfl (two_set_alloc (w := w1.drewN nq) HQ0.out _ _ _)) rfl ?_
  have fW : Fr (fun _ => False) w _ := Fr.of_below hbW
  exact ⟨O, (RdM.below ⟨_, _, _, _, _, _, HH.out⟩ hbW).mono (by omega), fW.mono (fun _ _ h => h.elim), Gr.refl _ _, .inr ⟨ht0, m, ao, n, c, rfl, HEn.out.fr fW (fun _ _ _ _ => id)⟩⟩
end Go.Proofs.Ytgkclldiphcogaa

/- The walk of the reader's take where the frame was not taken yet, or the table has changed since. -/
namespace Go.Proofs.Ytgkclldiphcogaa
set_option linter.unusedVariables false
open Go.RowKit Go.Maps
open Lz (g)
open Crc (ent)
open Frm Mtr

/-- What is known of the world w3 in which the map is looked at: the frame is not there. -/
structure Pk (w w3 : World) (p tb N fn fc m : Nat) (O : Nat → Prop) (T : Nat → Nat) (X : List Int) (fo : Option Addr) (q : Int) (N2 : Nat) (U2 : Nat → Nat) (D2 : DataW Value) : Prop where
  rd : RdM' w3 p O tb T X N2 fo fn fc m U2 D2
  le : N2 ≤ N
  sm : ∀ i, i < 256 → U2 i = T i
  no : has D2 (.int .i64 q) = false
  fr : Fr O w w3
  tb : Tb w3 tb T
  bk : w3.heap[w.heap.size]? = some (.cells #[.slice none 0 0, .int .i64 0] 148 (0, 0))
theorem Pk.run {w w3 : World} {p tb N fn fc m : Nat} {O : Nat → Prop} {T : Nat → Nat} {X : List Int} {fo : Option Addr} {q : Int} {N2 : Nat} {U2 : Nat → Nat} {D2 : DataW Value} (h : Pk w w3 p tb N fn fc m O T X fo q N2 U2 D2) (hq : 0 ≤ q ∧ q ≤ 9223372036854775807) :
    (Instr.lookup 90 (.map (some m)) (.int .i64 q) true).run Try.prog w3 = .ok (.tuple #[.agg #[.slice none 0 0, .int .i64 0], .bool false]) w3 ∧ w3.cell? ⟨p, 3, none⟩ = some (.map (some m)) ∧
    w3.cell? ⟨w.heap.size, 0, none⟩ = some (.slice none 0 0) ∧ w3.cell? ⟨w.heap.size, 1, none⟩ = some (.int .i64 0) ∧ w3.frozen? ⟨w.heap.size, 0, none⟩ = false ∧ w3.frozen? ⟨w.heap.size, 1, none⟩ = false := by
  have hwf : (Lit.int .i64 q).wf = true := WalkArith.wf_i64 (by omega)
  refine ⟨?_, h.rd.rb.2.2.2.2.1, by rw [cell_of_row _ _ 0 _ _ _ h.bk]; rfl, by rw [cell_of_row _ _ 1 _ _ _ h.bk]; rfl, by simp [World.frozen?, h.bk], by simp [World.frozen?, h.bk]⟩
  rcases look_held h.rd.map q hwf with ⟨e, _⟩ | ⟨_, _, e, _⟩
  · exact e
  · rw [h.no] at e; simp at e

set_option maxRecDepth 100000 in
set_option maxHeartbeats 1000000 in
theorem take_miss (p tb N fn fc m : Nat) (O : Nat → Prop) (T U : Nat → Nat) (X : List Int) (fo : Option Addr) (D : DataW Value) (q : Int) (w : World) (h : RdM' w p O tb T X N fo fn fc m U D) (hT : Tb w tb T) (htb : tb < w.heap.size) (hOt : ¬ O tb) (hS : Small T)
    (hq : 0 ≤ q ∧ q ≤ 9223372036854775807) (hX : X.length ≤ 1000000) (hN : N ≤ 1000000000) (hh : eqT U T = true → has D (.int .i64 q) = false) :
    Calls Try.prog 93 #[.pointer (some ⟨p, 0, none⟩), .int .i64 q] w fun r w' => Gets w w' p tb N O T X q r := by
  obtain ⟨CL, hCL⟩ : ∃ CL, CL = (tab T).toList := ⟨_, rfl⟩
  have hC : CL.toArray = tab T := by rw [hCL]
  have hCn : CL.length = 256 := by rw [hCL, Array.length_toList, tab_size]
  obtain ⟨CU, hCU⟩ : ∃ CU, CU = tab U := ⟨_, rfl⟩
  obtain ⟨w1, hw1⟩ : ∃ w1, w1 = w.alloc (.cells #[.slice none 0 0, .int .i64 0] 148) := ⟨_, rfl⟩
  have hb1 : Below w.heap.size w w1 := by rw [hw1]; exact (Below.refl _ _).alloc (Nat.le_refl _) _
  have h1 := h.fr (Fr.of_below (S := fun _ => False) hb1) (fun _ _ => id)
  have hT1 := hT.below hb1 htb
  have rU : ∀ w', (∃ n, w' = w1.drewN n) → w'.rangeAt p 4 (tab U).toList := fun w' hn j v hv => by obtain ⟨n, rfl⟩ := hn; rw [← h1.rb.2.2.2.2.2 j v hv]; simp
  have rC : ∀ w', (∃ n, w' = w1.drewN n) → w'.rangeAt tb 0 (tab T).toList := fun w' hn j v hv => by obtain ⟨n, rfl⟩ := hn; rw [← tb_range hT1 j v hv]; simp
  have c0 := h1.rb.2.1
  have c3 := h1.rb.2.2.2.2.1
  have hs1 : w1.heap.size = w.heap.size + 1 := by rw [hw1]; simp
  have hq0 : w1.heap[w.heap.size]? = some (.cells #[.slice none 0 0, .int .i64 0] 148 (0, 0)) := by rw [hw1]; exact heap_alloc_new w _
  have hpm := h.rb.lt
  have hmm := h.map.lt
  have hne := h.ne
  have hOlt := h.lt
  have htm : tb ≠ m := fun e => hOt (by rw [e]; exact h.om)
  have htp : tb ≠ p := fun e => hOt (by rw [e]; exact h.op)
  obtain ⟨hz, hi'⟩ := zero_of_info infoTable
  have HW := hide hw1
  have HC := hide hC
  have HCU := hide hCU
  have HRU := hide rU
  have HRC := hide rC
  have HH1 := hide h1
  have HT1 := hide hT1
  have HQ0 := hide hq0
  have HB1 := hide hb1
  have HS := hide hS
  have HCL := hide hCL
  have HCn := hide hCn
  have HIL : Hid ((Try.prog.info? 39).map (·.size) = some CL.length) := by show _ = _; rw [hCn]; exact hi'
  have HIA : Hid ((Try.prog.info? 39).map (·.size) = some CL.toArray.size) := by show _ = _; rw [List.size_toArray, hCn]; exact hi'
  have HOne : Hid (CL.toArray.all (·.oneCell') = true) := by show _ = _; rw [hC]; exact tab_one T
  have HI : Hid ((Try.prog.info? 39).map (·.size) = some 256) := hi'
  clear hw1 hC hCL hCn hCU rU rC hT hT1 h h1 hq0 hz hi' hb1 hS
  rcases Bool.eq_false_or_eq_true (eqT U T) with he | he
  -- the table is as it was
  have HE := hide (show (!eqT U T) = false by rw [he]; rfl)
  have hh' := hh he
  have hU := eqT_true he
  clear he hh
  go_enter Try.func93, Try.ntmps93
  go_wp2_with fail
  rw [← HW.out]
  refine wp_region_quiet_lit (by kernel_rfl) (by kernel_rfl) ?_
  iterate 3 go_big_quiet_step (fail)
  refine wpQuiet_table (by rfl) _ rfl p 4 rfl U CU HCU.out HRU.out ?_
  simp only [Act.put, List.setIfInBounds_toArray, List.set_cons_zero, List.set_cons_succ]
  iterate 5 go_big_quiet_step (fail)
  refine wpQuiet_table (by rfl) _ rfl tb 0 rfl T CL.toArray HC.out HRC.out ?_
  simp only [Act.put, List.setIfInBounds_toArray, List.set_cons_zero, List.set_cons_succ]
  refine wpQuiet_neq (by rfl) _ _ _ rfl CU CL.toArray U T rfl rfl HCU.out HC.out false HE.out ?_
  simp only [Act.put, List.setIfInBounds_toArray, List.set_cons_zero, List.set_cons_succ]
  refine wpQuiet_nil ?_
  intro _ hw'
  obtain ⟨nq, hw''⟩ := hw'
  subst hw''
  obtain ⟨w3, hw3⟩ : ∃ w3, w3 = w1.drewN nq := ⟨_, rfl⟩
  have hP : ∃ N2 U2 D2, Pk w w3 p tb N fn fc m O T X fo q N2 U2 D2 := by
    rw [hw3]
    have f1 : Fr (fun _ => False) w1 (w1.drewN nq) := (Fr.refl (fun _ => False) w1).drewN nq
    exact ⟨N, U, D, HH1.out.fr f1 (fun _ _ => id), Nat.le_refl _, hU, hh', Fr.of_below (below_drewN HB1.out nq), HT1.out.fr f1 (by omega) id, (f1.block _ (by omega) id).trans HQ0.out⟩
  rw [← hw3]
  obtain ⟨N2, U2, D2, hP⟩ := hP
  obtain ⟨hrun, c33, q0, q1, f0, f1⟩ := hP.run hq
  have HP := hide hP
  clear hP hw3 hU hh' HE HRU HRC HH1 HT1 HQ0 HB1 HC HCL c0 c3
  go_wp2_with fail
  rotate_left
  -- it has changed
  have HE := hide (show (!eqT U T) = true by rw [he]; rfl)
  clear he hh
  go_enter Try.func93, Try.ntmps93
  go_wp2_with fail
  rw [← HW.out]
  refine wp_region_quiet_lit (by kernel_rfl) (by kernel_rfl) ?_
  iterate 3 go_big_quiet_step (fail)
  refine wpQuiet_table (by rfl) _ rfl p 4 rfl U CU HCU.out HRU.out ?_
  simp only [Act.put, List.setIfInBounds_toArray, List.set_cons_zero, List.set_cons_succ]
  iterate 5 go_big_quiet_step (fail)
  refine wpQuiet_table (by rfl) _ rfl tb 0 rfl T CL.toArray HC.out HRC.out ?_
  simp only [Act.put, List.setIfInBounds_toArray, List.set_cons_zero, List.set_cons_succ]
  refine wpQuiet_neq (by rfl) _ _ _ rfl CU CL.toArray U T rfl rfl HCU.out HC.out true HE.out ?_
  simp only [Act.put, List.setIfInBounds_toArray, List.set_cons_zero, List.set_cons_succ]
  refine wpQuiet_nil ?_
  intro _ hw'
  obtain ⟨nq, hw''⟩ := hw'
  subst hw''
  have HHq : Hid (RdM' (w1.drewN nq) p O tb T X N fo fn fc m U D) := HH1.out.fr ((Fr.refl (fun _ => False) w1).drewN nq) (fun _ _ => id)
  have c3q := HHq.out.rb.2.2.2.2.1
  have HTq : Hid (Tb (w1.drewN nq) tb T) := HT1.out
  go_wp2_with (first
    | (refine wpList_clear_own rfl _ rfl m N D rfl HHq.out.map ?_; intro w2 hm2 hg2; have HX := hide (HHq.out.cleared hm2 hg2); have rb2 := HX.out.2.2; have c02 := rb2.2.1; have HT2 : Hid (Tb w2 tb T) := (HTq.out.fr (Fr.of_grown (S := One m) hg2 (fun k hk => by cases hk; rfl)) (by show tb < w1.heap.size; omega) htm); have HRg2 : Hid (w2.rangeAt tb 0 CL) := (by show w2.rangeAt tb 0 CL; rw [HCL.out]; exact tb_range HT2.out); have HTh2 : Hid (w2.there p 4 CL.toArray.size) := (by show w2.there p 4 CL.toArray.size; rw [List.size_toArray, HCn.out]; exact rb2.there); have HG2 := hide hg2; clear rb2 hm2 hg2)
    | (refine wpList_load_mid rfl _ _ rfl tb 0 rfl CL _ HRg2.out Try.underlying39 rfl HIL.out ?_)
    | (refine wpList_store_mid rfl _ _ _ rfl p 4 CL.toArray rfl rfl HTh2.out HIA.out HOne.out ?_
       obtain ⟨w3, hw3⟩ : ∃ w3, w3 = w2.setCells p 4 CL.toArray.toList := ⟨_, rfl⟩
       have hP : ∃ N2 U2 D2, Pk w w3 p tb N fn fc m O T X fo q N2 U2 D2 := (by
         rw [hw3, HC.out]
         obtain ⟨x1, x2, _⟩ := HX.out
         have f2 : Fr (fun k => k = m ∨ k = p) (w1.drewN nq) (w2.setCells p 4 (tab T).toList) := (Fr.of_grown (S := fun k => k = m ∨ k = p) HG2.out (fun k hk => by cases hk; exact .inl rfl)).then (Fr.of_setCells _ _ _ _ _ (.inr rfl))
         refine ⟨0, T, .map [], x1, Nat.zero_le _, fun _ _ => rfl, rfl, ?_, ?_, ?_⟩
         · exact (Fr.of_below (S := O) HB1.out).then x2.undrewN
         · exact HTq.out.fr f2 (by show tb < w1.heap.size; omega) (fun e => by rcases e with e | e; exact htm e; exact htp e)
         · exact (f2.block _ (by show w.heap.size < w1.heap.size; omega) (fun e => by rcases e with e | e <;> omega)).trans HQ0.out)
       rw [← hw3]
       obtain ⟨N2, U2, D2, hP⟩ := hP
       obtain ⟨hrun, c33, q0, q1, f0, f1⟩ := hP.run hq
       have HP := hide hP
       clear hP hw3 HX HTq HHq HT2 HG2 HRg2 HTh2 c02 c3q HE HRU HRC HH1 HT1 HQ0 HB1 HC HCL c0 c3))
  all_goals (
    clear hrun
    obtain ⟨w4, hw4⟩ : ∃ w4, w4 = w3.alloc (.cells #[.slice none 0 0, .int .i64 0] 148) := ⟨_, rfl⟩
    have hb4 : Below w3.heap.size w3 w4 := by rw [hw4]; exact (Below.refl _ _).alloc (Nat.le_refl _) _
    have fr4 : Fr (fun _ => False) w3 w4 := Fr.of_below hb4
    have hr4 := HP.out.rd.fr fr4 (fun _ _ => id)
    have ht3 : tb < w3.heap.size := Nat.lt_of_lt_of_le htb HP.out.fr.size
    have hT4 := HP.out.tb.below hb4 ht3
    have c04 := hr4.rb.2.1
    have c24 := hr4.rb.2.2.2.1
    have hfl := hr4.bs.1
    have HK := hide (Take_any tb fn fc q T fo X w4.drew hT4 (by show tb < w4.heap.size; exact Nat.lt_of_lt_of_le ht3 hb4.size) HS.out hr4.bs hr4.cap hr4.nil (by omega) hr4.max (by omega))
    have HB4 := hide hb4
    rw [← hw4]
    have HW4 := hide hw4
    have hp4 : p < w4.heap.size := hr4.rb.lt
    clear hw4 hb4 fr4 hr4 hT4 q0 q1 f0 f1 c33 ht3 hfl
    go_region_held3 (fun wX => wX.cell? ⟨p, 0, none⟩ = some (.pointer (some ⟨tb, 0, none⟩)) ∧ wX.cell? ⟨p, 2, none⟩ = some (.slice fo fn fc)) (go_keep)
      ((first
        | (go_at_call 119; refine HK.out.mono ?_; rintro r w5 ⟨ao5, k5, rfl, hF5⟩; have HF5 := hide hF5; have c05 := (hF5.bel.cell (p := ⟨p, 0, none⟩) hp4).trans c04; have c25 := (hF5.bel.cell (p := ⟨p, 2, none⟩) hp4).trans c24; clear hF5)))
    have hb45 : Below w4.heap.size w4 w5 := ⟨HF5.out.bel.os, HF5.out.bel.tape, HF5.out.bel.output, HF5.out.bel.size, HF5.out.bel.block⟩
    have hb35 : Below w3.heap.size w3 w5 := HB4.out.trans (hb45.mono HB4.out.size)
    have hlt3 : w.heap.size < w3.heap.size := heap_lt HP.out.bk
    have bk5 : w5.heap[w.heap.size]? = some (.cells #[.slice none 0 0, .int .i64 0] 148 (0, 0)) := (hb35.block _ hlt3).trans HP.out.bk
    have HBK5 := hide bk5
    have HB35 := hide hb35
    have HFr5 : Hid (Fresh w3 w5 ao5 (take T X q).1.length k5 (take T X q).1) := by
      have := HF5.out
      exact (Fresh.from ⟨this.bs, this.cap, this.max, this.nil, hb45, this.new⟩ HB4.out)
    have q0 : w5.cell? ⟨w.heap.size, 0, none⟩ = some (.slice none 0 0) := by rw [cell_of_row _ _ 0 _ _ _ bk5]; rfl
    have q1 : w5.cell? ⟨w.heap.size, 1, none⟩ = some (.int .i64 0) := by rw [cell_of_row _ _ 1 _ _ _ bk5]; rfl
    have f0 : w5.frozen? ⟨w.heap.size, 0, none⟩ = false := by simp [World.frozen?, bk5]
    have f1 : w5.frozen? ⟨w.heap.size, 1, none⟩ = false := by simp [World.frozen?, bk5]
    have c35 := (HP.out.rd.fr (Fr.of_below (S := fun _ => False) hb35) (fun _ _ => id)).rb.2.2.2.2.1
    clear hb45 hb35 bk5 HF5 HK c04 c24 c05 c25
    rcases take_err T X q with h0 | h2
    · obtain ⟨w6, hw6⟩ : ∃ w6, w6 = w5.alloc (.cells #[.slice ao5 (take T X q).1.length k5, .int .i64 (take T X q).2.1] 148) := ⟨_, rfl⟩
      have hb56 : Below w5.heap.size w5 w6 := by rw [hw6]; exact (Below.refl _ _).alloc (Nat.le_refl _) _
      have hb36 : Below w3.heap.size w3 w6 := HB35.out.trans (hb56.mono HB35.out.size)
      have fr36 : Fr (fun _ => False) w3 w6 := Fr.of_below hb36
      have hr6 := HP.out.rd.fr fr36 (fun _ _ => id)
      have c36 := hr6.rb.2.2.2.2.1
      have bn6 : w6.heap[w5.heap.size]? = some (.cells #[.slice ao5 (take T X q).1.length k5, .int .i64 (take T X q).2.1] 148 (0, 0)) := by rw [hw6]; exact heap_alloc_new w5 _
      have hwf : (Lit.int .i64 q).wf = true := WalkArith.wf_i64 (by omega)
      have hN2 := HP.out.le
      obtain ⟨w7, hrun7, hm7, hg7⟩ := World.ownsMap.update (w := w6.drew) (t := 90) hr6.map mapKeyed Try.underlying90 (by unfold maxLen; omega) (keyOf_int_mk Try.underlying3 hwf) (show HR (.agg #[.slice ao5 (take T X q).1.length k5, .int .i64 (take T X q).2.1]) = some (.held _, []) from rfl)
      have hg67 : w6.grownBy w7 (some m) := ⟨hg7.os, hg7.tape, hg7.output, hg7.size, hg7.block⟩
      have f67 : Fr (One m) w6 w7 := Fr.of_grown hg67 (fun k hk => by cases hk; rfl)
      have hs6 := hb56.size
      have hs5 := HB35.out.size
      have hs3 := HP.out.fr.size
      have bn7 : w7.heap[w5.heap.size]? = some (.cells #[.slice ao5 (take T X q).1.length k5, .int .i64 (take T X q).2.1] 148 (0, 0)) := (f67.block _ (heap_lt bn6) (fun (e : _ = m) => by omega)).trans bn6
      have bk7 : w7.heap[w.heap.size]? = some (.cells #[.slice none 0 0, .int .i64 0] 148 (0, 0)) := (f67.block _ (by omega) (fun (e : _ = m) => by omega)).trans ((hb56.block _ (by omega)).trans HBK5.out)
      have c37 := (hr6.rb.fr f67 (fun (e : _ = m) => hne e.symm)).2.2.2.2.1
      have a06 : w6.cell? ⟨w5.heap.size, 0, none⟩ = some (.slice ao5 (take T X q).1.length k5) := by rw [cell_of_row _ _ 0 _ _ _ bn6]; rfl
      have a16 : w6.cell? ⟨w5.heap.size, 1, none⟩ = some (.int .i64 (take T X q).2.1) := by rw [cell_of_row _ _ 1 _ _ _ bn6]; rfl
      have a07 : w7.cell? ⟨w5.heap.size, 0, none⟩ = some (.slice ao5 (take T X q).1.length k5) := by rw [cell_of_row _ _ 0 _ _ _ bn7]; rfl
      have a17 : w7.cell? ⟨w5.heap.size, 1, none⟩ = some (.int .i64 (take T X q).2.1) := by rw [cell_of_row _ _ 1 _ _ _ bn7]; rfl
      have q07 : w7.cell? ⟨w.heap.size, 0, none⟩ = some (.slice none 0 0) := by rw [cell_of_row _ _ 0 _ _ _ bk7]; rfl
      have q17 : w7.cell? ⟨w.heap.size, 1, none⟩ = some (.int .i64 0) := by rw [cell_of_row _ _ 1 _ _ _ bk7]; rfl
      have f07 : w7.frozen? ⟨w.heap.size, 0, none⟩ = false := by simp [World.frozen?, bk7]
      have f17 : w7.frozen? ⟨w.heap.size, 1, none⟩ = false := by simp [World.frozen?, bk7]
      have HBK7 := hide bk7
      have HFin := hide (HP.out.rd.stored HP.out.sm hb36 h0 (HFr5.out.on hb56) hm7 hg67)
      have HW6 := hide hw6
      clear hw6 hb56 hb36 fr36 hr6 bn6 bn7 bk7 hm7 hg7 hg67 f67 q0 q1 f0 f1
      go_wp2_with fail
      rw [← HW6.out]
      go_region_held3 (fun wX => wX.cell? ⟨p, 3, none⟩ = some (.map (some m)) ∧ wX.cell? ⟨w5.heap.size, 0, none⟩ = some (.slice ao5 (take T X q).1.length k5) ∧ wX.cell? ⟨w5.heap.size, 1, none⟩ = some (.int .i64 (take T X q).2.1)) (go_keep) (fail)
      clear hrun7 c35 c36 a06 a16 HW6
      go_wp2_with fail
      refine bodyPost_ret (results_b2 rfl _ _ w.heap.size _ k5 ao5 (take T X q).2.1 rfl (two_set HBK7.out _ _)) rfl ?_
      obtain ⟨O', x1, x2, x3, x4⟩ := HFin.out
      have fs : Fr (One w.heap.size) w7 ((w7.setCell ⟨w.heap.size, 0, none⟩ (.slice ao5 (take T X q).1.length k5)).setCell ⟨w.heap.size, 1, none⟩ (.int .i64 (take T X q).2.1)) := ((Fr.refl (One w.heap.size) _).set (p := ⟨w.heap.size, 0, none⟩) _ (fun _ => rfl)).set (p := ⟨w.heap.size, 1, none⟩) _ (fun _ => rfl)
      have hO' : ∀ k, O' k → ¬ One w.heap.size k := fun k hk (e : k = w.heap.size) => by
        rcases x3 k hk with h | h
        · have := hOlt k h; omega
        · omega
      exact ⟨O', (x1.fr fs hO').mono (by omega), (HP.out.fr.then x2).trans fs (fun i hi (e : i = w.heap.size) => by omega), fun k hk => (x3 k hk).imp id (fun h => by omega), .inr ⟨h0, m, ao5, _, k5, rfl, x4.fr fs (fun k hk _ _ => hO' k hk)⟩⟩
    · have e2 : (take T X q).2.2 = 2 := by rw [h2]
      have HH2 := hide h2
      clear h2
      go_wp2_with fail
      refine bodyPost_ret (results_b2 rfl _ _ w.heap.size 0 0 none 0 rfl (two_set HBK5.out _ _)) rfl ?_
      have fs : Fr (One w.heap.size) w5 ((w5.setCell ⟨w.heap.size, 0, none⟩ (.slice none 0 0)).setCell ⟨w.heap.size, 1, none⟩ (.int .i64 0)) := ((Fr.refl (One w.heap.size) _).set (p := ⟨w.heap.size, 0, none⟩) _ (fun _ => rfl)).set (p := ⟨w.heap.size, 1, none⟩) _ (fun _ => rfl)
      have hO' : ∀ k, O k → ¬ One w.heap.size k := fun k hk (e : k = w.heap.size) => by have := hOlt k hk; omega
      have f35 : Fr O w3 w5 := Fr.of_below HB35.out
      exact ⟨O, (RdM.fr (RdM.below ⟨_, _, _, _, _, _, HP.out.rd⟩ HB35.out) fs hO').mono (Nat.le_trans HP.out.le (by omega)), (HP.out.fr.then f35).trans fs (fun i hi (e : i = w.heap.size) => by omega), Gr.refl _ _, .inl ⟨by rw [e2]; decide, rfl⟩⟩)

theorem rTake_any (p tb N : Nat) (O : Nat → Prop) (T : Nat → Nat) (X : List Int) (q : Int) (w : World) (h : RdM w p O tb T X N) (hT : Tb w tb T) (htb : tb < w.heap.size) (hOt : ¬ O tb) (hS : Small T)
    (hq : 0 ≤ q ∧ q ≤ 9223372036854775807) (hX : X.length ≤ 1000000) (hN : N ≤ 1000000000) :
    Calls Try.prog 93 #[.pointer (some ⟨p, 0, none⟩), .int .i64 q] w fun r w' => Gets w w' p tb N O T X q r := by
  obtain ⟨fo, fn, fc, m, U, D, h⟩ := h
  by_cases e : eqT U T = true ∧ has D (.int .i64 q) = true
  · exact take_had p tb N fn fc m O T U X fo D q w h hT htb hq e.2 e.1
  · refine take_miss p tb N fn fc m O T U X fo D q w h hT htb hOt hS hq hX hN (fun he => ?_)
    cases hh : has D (.int .i64 q)
    · rfl
    · exact absurd ⟨he, hh⟩ e
end Go.Proofs.Ytgkclldiphcogaa

/- The walk of the reader's part: what the frame of a ref has of the bytes from there on. -/
namespace Go.Proofs.Ytgkclldiphcogaa
set_option linter.unusedVariables false
open Go.RowKit Go.Maps
open Lz (g)
open Crc (ent)
open Frm Mtr

/-- What part answers. -/
def Parts (w w' : World) (p tb N : Nat) (O : Nat → Prop) (T : Nat → Nat) (X : List Int) (ref : Int) (n : Nat) (r : Ending) : Prop :=
  ∃ O', RdM w' p O' tb T X (N + 1) ∧ Fr O w w' ∧ Gr O O' w ∧
    ((pt T X ref n = none ∧ r = .returned (.tuple #[.slice none 0 0, .int .i64 0, .bool false])) ∨
     ∃ z nx m ao c, pt T X ref n = some (z, nx) ∧ z.length = m ∧ r = .returned (.tuple #[.slice ao m c, .int .i64 nx, .bool true]) ∧ Bs w' ao m z ∧ (ao = none → c = 0) ∧ ∀ a, ao = some a → O' a.block)
theorem Parts.none' {w w' w1 : World} {p tb N : Nat} {O O' : Nat → Prop} {T : Nat → Nat} {X : List Int} {ref : Int} {n : Nat} (h : pt T X ref n = none) (h1 : RdM w1 p O' tb T X (N + 1)) (h2 : Fr O w w1) (h3 : Gr O O' w) (hb : Below w1.heap.size w1 w') :
    Parts w w' p tb N O T X ref n (.returned (.tuple #[.slice none 0 0, .int .i64 0, .bool false])) :=
  ⟨O', h1.below hb, h2.then (Fr.of_below hb), h3, .inl ⟨h, rfl⟩⟩

set_option maxRecDepth 100000 in
set_option maxHeartbeats 1000000 in
theorem part_any (p tb N : Nat) (O : Nat → Prop) (T : Nat → Nat) (X : List Int) (ref : Int) (n : Nat) (w : World) (h : RdM w p O tb T X N) (hT : Tb w tb T) (htb : tb < w.heap.size) (hOt : ¬ O tb) (hS : Small T) (hby : Bytes X)
    (hq : 0 ≤ ref ∧ ref ≤ 9223372036854775807) (hX : X.length ≤ 1000000) (hN : N ≤ 1000000000) (hn : 1 ≤ n ∧ n ≤ 9223372036854775807) :
    Calls Try.prog 76 #[.pointer (some ⟨p, 0, none⟩), .int .i64 ref, .int .i64 n] w fun r w' => Parts w w' p tb N O T X ref n r := by
  have HK := hide (rTake_any p tb N O T X (ref / 256) w h hT htb hOt hS (by omega) hX hN)
  have hlen := Mtr.take_len T hby (ref / 256)
  have HNx := hide (fun (h : (take T X (ref / 256)).2.2 = 0) => Mtr.take_next h)
  have HPt : Hid (pt T X ref n = if (take T X (ref / 256)).2.2 ≠ 0 ∨ ((take T X (ref / 256)).1.length : Int) ≤ ref % 256 then none
  else some (((take T X (ref / 256)).1.drop (ref % 256).toNat).take n,
    if ref % 256 + (min n ((take T X (ref / 256)).1.length - (ref % 256).toNat) : Nat) = 128 then 256 * (take T X (ref / 256)).2.1 else 256 * (ref / 256) + (ref % 256 + (min n ((take T X (ref / 256)).1.length - (ref % 256).toNat) : Nat)))) := rfl
  obtain ⟨u, hu⟩ : ∃ u : Nat, ref % 256 = u := ⟨(ref % 256).toNat, by omega⟩
  obtain ⟨pl, hpl⟩ : ∃ pl : Nat, ref / 256 = pl := ⟨(ref / 256).toNat, by omega⟩
  have hu2 : u < 256 := by omega
  have hp2 : (pl : Int) ≤ 9223372036854775807 := by omega
  have HS' := hide (split_any ref w hq)
  rw [hu, hpl, Int.toNat_natCast] at HPt
  rw [hpl] at HK hlen HNx
  rw [hu, hpl] at HS'
  unfold Gets En at HK
  generalize take T X (pl : Int) = t at *
  obtain ⟨bs, nx, er⟩ := t
  simp only at HPt HK hlen HNx
  clear h hT hS hOt hby hu hpl
  go_enter Try.func76, Try.ntmps76
  go_wp2_with fail
  refine HS'.out.mono ?_
  rintro r wx ⟨rfl, hwx⟩
  obtain rfl := hwx.symm
  clear HS'
  go_wp2_with fail
  refine HK.out.mono ?_
  rintro r w1 ⟨O', hR, hF, hG, ⟨he, rfl⟩ | ⟨he, m, ao, k, c, rfl, hE⟩⟩
  · -- no frame
    have HX := hide (fun w' hb => Parts.none' (w' := w') (by rw [HPt.out, if_pos (.inl he)]) hR hF hG hb)
    clear hR hF hG HK
    unfold zb
    go_wp2
    go_ret3
    exact HX.out _ ((Below.refl _ _).alloc (Nat.le_refl _) _)
  · obtain ⟨ao', n', c', hv, _, hB, hcap, hmax, hnil, hown⟩ := hE
    obtain ⟨⟨rfl, rfl, rfl⟩, _⟩ : (ao = ao' ∧ k = n' ∧ c = c') ∧ nx = nx := by simpa using hv
    have hk : bs.length = k := hB.1
    obtain ⟨n1, n2, n3⟩ := HNx.out he
    by_cases hkl : k ≤ u
    · have HX := hide (fun w' hb => Parts.none' (w' := w') (by rw [HPt.out, if_pos (.inr (by omega))]) hR hF hG hb)
      have hi : (k : Int) ≤ (u : Int) := by omega
      clear hR hF hG HK hB hown
      go_wp2
      go_ret3
      exact HX.out _ ((Below.refl _ _).alloc (Nat.le_refl _) _)
    · obtain ⟨b, off, rfl⟩ : ∃ b off, ao = some ⟨b, off, none⟩ := by
        rcases hB.2.2 with h | ⟨b, off, h, _⟩
        · omega
        · exact ⟨b, off, h⟩
      have hi1 : (u : Int) < (k : Int) := by omega
      have hi2 : decide ((k : Int) ≤ (u : Int)) = false := by simp; omega
      have hi3 : (u : Int) ≤ (k : Int) := by omega
      have hi4 : ¬ c = u := by omega
      obtain ⟨mm, hmm⟩ : ∃ mm, min n (k - u) = mm := ⟨_, rfl⟩
      have hm1 : 1 ≤ mm := by omega
      have hm2 : mm ≤ k - u := by omega
      have hm3 : mm ≤ n := by omega
      have hBp : Bs w1 (some ⟨b, off + u, none⟩) mm ((bs.drop u).take n) := by
        rcases hB.2.2 with h | ⟨b', off', h, hlt, hs⟩
        · omega
        · obtain ⟨rfl, rfl⟩ : b = b' ∧ off = off' := by simpa using h
          refine ⟨by simp; omega, bytes_take (bytes_drop hB.2.1 u) n, .inr ⟨b, off + u, rfl, hlt, fun i hi => ?_⟩⟩
          simp at hi
          rw [Lz.g_take _ _ _ (by omega), Lz.g_drop, Nat.add_assoc]
          exact hs (u + i) (by omega)
      have HX := hide (fun (w' : World) (r : Ending) (cc : Nat) (hb : Below w1.heap.size w1 w') (hr : r = .returned (.tuple #[.slice (some ⟨b, off + u, none⟩) mm cc, .int .i64 (if (u : Int) + (mm : Nat) = 128 then 256 * nx else 256 * (pl : Int) + (u + (mm : Nat))), .bool true])) =>
        show Parts w w' p tb N O T X ref n r from ⟨O', hR.below hb, hF.then (Fr.of_below hb), hG, .inr ⟨(bs.drop u).take n, _, mm, _, cc, by rw [HPt.out, if_neg (by simp [he]; omega), hk, hmm], hBp.1, hr, hBp.below hb, fun h => by simp at h, fun a ha => by cases ha; exact (hown _ rfl (by omega)).1⟩⟩)
      clear hR hF hG HK hB hown hBp HPt HNx hnil
      have hw1a : Below w1.heap.size w1 (w1.alloc (.cells #[.slice (some ⟨b, off, none⟩) k c, .int .i64 nx] 148)) := (Below.refl _ _).alloc (Nat.le_refl _) _
      have HB1 := hide hw1a
      clear hw1a
      by_cases hnk : n ≤ k - u
      · obtain rfl : mm = n := by omega
        have hi5 : (mm : Int) ≤ (k : Int) - (u : Int) := by omega
        have hi6 : (mm : Int) ≤ ((k - u : Nat) : Int) := by omega
        by_cases h128 : (u : Int) + (mm : Int) = 128
        · go_wp2_with fail
          refine (refOf_any nx 0 _ (by omega) (by omega)).mono ?_
          rintro r wy ⟨rfl, hwy⟩
          obtain rfl := hwy.symm
          go_wp2
          go_ret3
          refine HX.out _ _ (c - u) HB1.out ?_
          rw [if_pos h128]; rfl
        · go_wp2_with fail
          refine (refOf_any pl _ _ (by omega) (by omega)).mono ?_
          rintro r wy ⟨rfl, hwy⟩
          obtain rfl := hwy.symm
          go_wp2
          go_ret3
          refine HX.out _ _ (c - u) HB1.out ?_
          rw [if_neg h128]; rfl
      · have hmk : mm = k - u := by omega
        have hi5 : (k : Int) - (u : Int) < (n : Int) := by omega
        have hi6 : ((k - u : Nat) : Int) < (n : Int) := by omega
        have hi7 : (mm : Int) < (n : Int) := by omega
        have hi8 : decide ((n : Int) ≤ (mm : Int)) = false := by simp; omega
        by_cases h128 : (u : Int) + (mm : Int) = 128
        · subst hmk
          have h128' : (u : Int) + ((k : Int) - (u : Int)) = 128 := by omega
          go_wp2_with fail
          refine (refOf_any nx 0 _ (by omega) (by omega)).mono ?_
          rintro r wy ⟨rfl, hwy⟩
          obtain rfl := hwy.symm
          go_wp2
          go_ret3
          refine HX.out _ _ (c - u) HB1.out ?_
          rw [if_pos h128]; rfl
        · subst hmk
          have h128' : ¬ (u : Int) + ((k : Int) - (u : Int)) = 128 := by omega
          go_wp2_with fail
          refine (refOf_any pl _ _ (by omega) (by omega)).mono ?_
          rintro r wy ⟨rfl, hwy⟩
          obtain rfl := hwy.symm
          go_wp2
          go_ret3
          refine HX.out _ _ (c - u) HB1.out ?_
          rw [if_neg h128]; rfl
end Go.Proofs.Ytgkclldiphcogaa

/- The walks of the reader's Read and Next. -/
namespace Go.Proofs.Ytgkclldiphcogaa
set_option linter.unusedVariables false
open Go.RowKit Go.Maps
open Lz (g)
open Crc (ent)
open Frm Mtr

theorem RdM.olt {w : World} {p tb N : Nat} {O : Nat → Prop} {T : Nat → Nat} {X : List Int} (h : RdM w p O tb T X N) : ∀ k, O k → k < w.heap.size := by
  obtain ⟨_, _, _, _, _, _, h⟩ := h; exact h.lt
theorem RdM.c1 {w : World} {p tb N : Nat} {O : Nat → Prop} {T : Nat → Nat} {X : List Int} (h : RdM w p O tb T X N) : w.cell? ⟨p, 1, none⟩ = some (.bool true) := by
  obtain ⟨_, _, _, _, _, _, h⟩ := h; exact h.rb.2.2.1
theorem RdM.len {w : World} {p tb N : Nat} {O : Nat → Prop} {T : Nat → Nat} {X : List Int} (h : RdM w p O tb T X N) : ∃ fo fn fc, w.cell? ⟨p, 2, none⟩ = some (.slice fo fn fc) ∧ Bs w fo fn X ∧ fn ≤ fc ∧ fc ≤ 9223372036854775807 ∧ (fo = none → fc = 0) := by
  obtain ⟨fo, fn, fc, _, _, _, h⟩ := h; exact ⟨fo, fn, fc, h.rb.2.2.2.1, h.bs, h.cap, h.max, h.nil⟩
/-- What Read answers. -/
def Reads (w w' : World) (p tb N : Nat) (O : Nat → Prop) (T : Nat → Nat) (X : List Int) (ref : Int) (n : Nat) (r : Ending) : Prop :=
  ∃ O', RdM w' p O' tb T X (N + n) ∧ Fr O w w' ∧ Gr O O' w ∧
    ((rd T X ref n = none ∧ r = .returned (.tuple #[.slice none 0 0, .int .i64 0, .int .i64 2])) ∨
     ∃ z nx ao c, rd T X ref n = some (z, nx) ∧ r = .returned (.tuple #[.slice ao n c, .int .i64 nx, .int .i64 0]) ∧ Bs w' ao n z ∧ n ≤ c ∧ c ≤ 9223372036854775807 ∧ (ao = none → c = 0) ∧ ∀ a, ao = some a → w.heap.size ≤ a.block ∧ ¬ O' a.block)
/-- Behind one part more. -/
theorem read_step {w wr w1 w2 : World} {p tb N N' k m c : Nat} {O O1 O2 : Nat → Prop} {T : Nat → Nat} {X out z : List Int} {vo ao' : Option Addr} {vc : Nat}
    (hA : Rw w2 w.heap.size ao' (k + m) c (out ++ z)) (hv : Rw wr w.heap.size vo k vc out) (hn : ∀ j, (Value.slice vo k vc).ownBlock = some j → ¬ O1 j) (hF : Fr O w wr) (hG : Gr O O1 w) (h1 : RdM w1 p O2 tb T X N) (hF1 : Fr O1 wr w1) (hG1 : Gr O1 O2 wr)
    (hg : w1.grownBy w2 (Value.slice vo k vc).ownBlock) (hl : Lie w1 (.slice vo k vc) (.slice ao' (k + m) c)) (hN : N ≤ N') :
    RdM w2 p O2 tb T X N' ∧ Fr O w w2 ∧ Gr O O2 w ∧ ∀ j, (Value.slice ao' (k + m) c).ownBlock = some j → ¬ O2 j := by
  have hn2 : ∀ j, (Value.slice vo k vc).ownBlock = some j → ¬ O2 j := fun j hj hx => by
    rcases hG1 j hx with h | h
    · exact hn j hj h
    · have := (hv.own hj).2.1; omega
  have f2 : Fr (fun j => (Value.slice vo k vc).ownBlock = some j) w1 w2 := Fr.of_grown hg (fun j hj => hj)
  refine ⟨(h1.fr f2 (fun j hj hx => hn2 j hx hj)).mono hN, ?_, hG.trans hG1 hF.size, fun j hj hx => ?_⟩
  · exact (hF.gr hG hF1).trans f2 (fun i hi hx => by have := (hv.own hx).1; omega)
  · rcases hl j hj with h | h
    · exact hn2 j h hx
    · have := h1.olt j hx; omega
theorem rd_none {T : Nat → Nat} {X out : List Int} {A : Option (List Int × Int)} {f : Nat} {ref : Int} {n : Nat} (h : A = (rdF T X f ref n).map fun q => (out ++ q.1, q.2)) (hf : n ≤ f) (hn : n ≠ 0) (hp : pt T X ref n = none) : A = none := by
  obtain ⟨f, rfl⟩ : ∃ f', f = f' + 1 := ⟨f - 1, by omega⟩
  rw [h, rdF_none hn hp]; rfl
theorem rd_some {T : Nat → Nat} {X out z : List Int} {A : Option (List Int × Int)} {f : Nat} {ref nx : Int} {n m : Nat} (h : A = (rdF T X f ref n).map fun q => (out ++ q.1, q.2)) (hf : n ≤ f) (hn : n ≠ 0) (hp : pt T X ref n = some (z, nx)) (hm : z.length = m) :
    A = (rdF T X (f - 1) nx (n - m)).map fun q => ((out ++ z) ++ q.1, q.2) := by
  obtain ⟨f, rfl⟩ : ∃ f', f = f' + 1 := ⟨f - 1, by omega⟩
  rw [h, rdF_some hn hp, hm, Option.map_map]
  simp only [Nat.add_sub_cancel]
  congr 1
  funext q
  simp [List.append_assoc]

set_option maxRecDepth 100000 in
set_option maxHeartbeats 1000000 in
theorem mRead_any (p tb N : Nat) (O : Nat → Prop) (T : Nat → Nat) (X : List Int) (ref : Int) (n : Nat) (w : World) (h : RdM w p O tb T X N) (hT : Tb w tb T) (htb : tb < w.heap.size) (hOt : ¬ O tb) (hS : Small T) (hby : Bytes X)
    (hq : 0 ≤ ref ∧ ref ≤ 9223372036854775807) (hX : X.length ≤ 1000000) (hN : N + n ≤ 1000000000) (hn : n ≤ 1000000) :
    Calls Try.prog 48 #[.pointer (some ⟨p, 0, none⟩), .int .i64 ref, .int .i64 n] w fun r w' => Reads w w' p tb N O T X ref n r := by
  have c1 := h.c1
  have g1 : decide (ref < 0) = false := by simp; omega
  have g2 : ((n : Int) < 0) = False := by simp
  have HH := hide h
  have HT := hide hT
  have HOt := hide hOt
  have HS := hide hS
  have HY := hide hby
  clear h hT hOt hS hby
  go_enter Try.func48, Try.ntmps48
  go_wp2_with fail
  go_loopw [1, 9] (fun s1 s9 wr => ∃ (vo : Option Addr) (k vc f : Nat) (rf' : Int) (out : List Int) (O1 : Nat → Prop), s9 = .slice vo k vc ∧ s1 = .int .i64 rf' ∧ (0 ≤ rf' ∧ rf' ≤ 9223372036854775807) ∧ k ≤ n ∧ Rw wr w.heap.size vo k vc out ∧ RdM wr p O1 tb T X (N + k) ∧ Fr O w wr ∧ Gr O O1 w ∧
    (∀ j, (Value.slice vo k vc).ownBlock = some j → ¬ O1 j) ∧ n - k ≤ f ∧ Hid (rd T X ref n = (rdF T X f rf' (n - k)).map fun q => (out ++ q.1, q.2))) (fun _ s9 _ => n - (match s9 with | .slice _ k _ => k | _ => 0))
  case atStart => exact ⟨none, 0, 0, n, ref, [], O, rfl, rfl, hq, Nat.zero_le _, Rw.none _ _, HH.out, Fr.refl _ _, Gr.refl _ _, fun j hj => by simp [Value.ownBlock] at hj, by omega, by
    show rd T X ref n = _
    unfold rd
    simp⟩
  case round =>
    obtain ⟨vo, k, vc, f, rf', out, O1, rfl, rfl, hr', hkn, hv, hR, hF, hG, hno, hf, HE⟩ := hrel
    by_cases hlt : k < n
    · have i1 : (k : Int) < (n : Int) := by omega
      have e1 : (n : Int) - (k : Int) = ((n - k : Nat) : Int) := by omega
      have HK := hide (part_any p tb (N + k) O1 T X rf' (n - k) wr hR (HT.out.fr hF htb HOt.out) (Nat.lt_of_lt_of_le htb hF.size) (fun hx => by
        rcases hG tb hx with h | h
        · exact HOt.out h
        · omega) HS.out HY.out hr' hX (by omega) (by omega))
      rw [← e1] at HK
      have HV := hide hv
      have HFr := hide hF
      have HGr := hide hG
      have HNo := hide hno
      clear hv hR hF hG hno e1
      go_wp2_with fail
      refine HK.out.mono ?_
      rintro r w1 ⟨O2, hR1, hF1, hG1, ⟨hp, rfl⟩ | ⟨z, nx, m, ao, c, hp, hm, rfl, hB, hnil, hown⟩⟩
      · have HX : Hid (Reads w w1 p tb N O T X ref n (.returned (.tuple #[.slice none 0 0, .int .i64 0, .int .i64 2]))) :=
          ⟨O2, hR1.mono (by omega), HFr.out.gr HGr.out hF1, HGr.out.trans hG1 HFr.out.size, .inl ⟨rd_none HE.out hf (by omega) hp, rfl⟩⟩
        clear hR1 hF1 hG1 HK hp
        go_wp2
        go_ret3
        exact HX.out
      · obtain ⟨b1, b2, b3, b4, b5, b6⟩ := pt_bd HY.out hr'.1 (by omega) hp
        rw [hm] at b1 b2 b3
        have HE2 : Hid (rd T X ref n = (rdF T X (f - 1) nx (n - (k + m))).map fun q => ((out ++ z) ++ q.1, q.2)) := by
          have := rd_some HE.out hf (by omega) hp hm
          rw [show n - k - m = n - (k + m) by omega] at this
          exact this
        have hnx : nx ≤ 9223372036854775807 := by omega
        have HR1 := hide hR1
        have HF1 := hide hF1
        have HG1 := hide hG1
        have HB := hide hB
        have HNil := hide hnil
        have hVl : Rw w1 w.heap.size vo k vc out := HV.out.fr hF1 HNo.out
        have HV1 := hide hVl
        have hB1 : w.heap.size ≤ w1.heap.size := Nat.le_trans HFr.out.size hF1.size
        clear hR1 hF1 hG1 hB hnil hp hVl HK hown hm b3 b4 b6
        go_wp2_with (first
          | (at_builtin; refine wpList_append_rw _ rfl (.tmp 41) (.tmp 42) rfl w.heap.size vo k vc out rfl HV1.out ao m c z rfl HB.out HNil.out (by omega) hB1 ?_
             intro ao' c' w2 hA hg hl
             have HX := hide (read_step (N' := N + (k + m)) hA HV.out HNo.out HFr.out HGr.out HR1.out HF1.out HG1.out hg hl (by omega))
             have HA := hide hA
             clear hA hg hl))
        go_roundw
        case rel =>
          obtain ⟨x1, x2, x3, x4⟩ := HX.out
          exact ⟨ao', k + m, c', f - 1, nx, out ++ z, O2, rfl, rfl, ⟨b5, hnx⟩, by omega, HA.out, x1, x2, x3, x4, by omega, HE2⟩
        case measure => simp only []; omega
    · obtain rfl : k = n := by omega
      have HX : Hid (Reads w wr p tb N O T X ref k (.returned (.tuple #[.slice vo k vc, .int .i64 rf', .int .i64 0]))) := by
        have hm := hv.2.2.2.1
        unfold maxLen at hm
        refine ⟨O1, hR, hF, hG, .inr ⟨out, rf', vo, vc, ?_, rfl, hv.bs, hv.2.2.1, by omega, hv.nil, fun a ha => ?_⟩⟩
        · rw [HE.out, Nat.sub_self, rdF_zero]; simp
        · have hb : (Value.slice vo k vc).ownBlock = some a.block := by rw [ha]; rfl
          exact ⟨(hv.own hb).1, hno _ hb⟩
      clear hv hR hF hG hno
      go_wp2
      go_ret3
      exact HX.out

theorem mReadNeg_any (p : Nat) (ref n : Int) (w : World) (hq : -9223372036854775808 ≤ ref ∧ ref ≤ 9223372036854775807) (hn : -9223372036854775808 ≤ n ∧ n ≤ 9223372036854775807) (h : ref < 0 ∨ n < 0) :
    Calls Try.prog 48 #[.pointer (some ⟨p, 0, none⟩), .int .i64 ref, .int .i64 n] w fun r w' => r = .returned (.tuple #[.slice none 0 0, .int .i64 0, .int .i64 1]) ∧ w' = w := by
  by_cases h1 : ref < 0
  · go_enter Try.func48, Try.ntmps48
    go_wp2
    go_ret3
    exact ⟨rfl, rfl⟩
  · have h2 : n < 0 := by omega
    have g1 : decide (ref < 0) = false := by simp; omega
    go_enter Try.func48, Try.ntmps48
    go_wp2
    go_ret3
    exact ⟨rfl, rfl⟩
theorem mReadNot_any (p : Nat) (ref n : Int) (w : World) (hx : w.cell? ⟨p, 1, none⟩ = some (.bool false)) (hq : 0 ≤ ref ∧ ref ≤ 9223372036854775807) (hn : 0 ≤ n ∧ n ≤ 9223372036854775807) :
    Calls Try.prog 48 #[.pointer (some ⟨p, 0, none⟩), .int .i64 ref, .int .i64 n] w fun r w' => r = .returned (.tuple #[.slice none 0 0, .int .i64 0, .int .i64 2]) ∧ w' = w := by
  have g1 : decide (ref < 0) = false := by simp; omega
  have g2 : decide (n < 0) = false := by simp; omega
  go_enter Try.func48, Try.ntmps48
  go_wp2
  go_ret3
  exact ⟨rfl, rfl⟩
/-- What Next answers. -/
def nxt (X : List Int) (ref : Int) : Int × Int := if (skip X (ref / 256)).2 = 0 then (256 * (skip X (ref / 256)).1, 0) else (0, 2)
end Go.Proofs.Ytgkclldiphcogaa

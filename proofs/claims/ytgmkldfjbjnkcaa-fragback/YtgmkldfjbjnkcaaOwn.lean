/- A row of bytes of the call's own that does not begin at its block's head ('rest = rest[128:]'): what it is, that it is cut, and that bytes are appended to it; what is owned, and frames off it; a clone as such a row. And, of frames as pure functions: blocks of 128 bytes, what is taken is no longer, and where the next one stands. -/
import Derived.Test.YtgmkldfjbjnkcaaFrmJoin
import Derived.ArgAppend
import Derived.Deep.MidRow
import Derived.Deep.Upon
namespace Go.Proofs.Ytgmkldfjbjnkcaa.Mtr
set_option linter.unusedVariables false
open Lz (g pack unpack up)
open Crc (ent more)
open Cur (le by')
open Frm

/-- The block k of a row. -/
def blk (z : List Int) (k : Nat) : List Int := (z.drop (128 * k)).take 128
theorem blk_length (z : List Int) (k : Nat) : (blk z k).length = min 128 (z.length - 128 * k) := by simp [blk]
theorem blk_le (z : List Int) (k : Nat) : (blk z k).length ≤ 128 := by rw [blk_length]; omega
theorem blk_bytes {z : List Int} (h : Bytes z) (k : Nat) : Bytes (blk z k) := (h.drop _).take _
theorem blk_append (z y : List Int) (k : Nat) (h : 128 * (k + 1) ≤ z.length) : blk (z ++ y) k = blk z k := by
  unfold blk
  rw [List.drop_append_of_le_length (by omega), List.take_append_of_le_length (by simp; omega)]
theorem up_len (most : Int) (hm : 0 ≤ most) : ∀ (f : Nat) (b out : List Int), (∀ i, 0 ≤ g b i) → (out.length : Int) ≤ most → ((Lz.upF most f b out).1.length : Int) ≤ most
  | 0, b, out, _, h => h
  | f + 1, b, out, hb, h => by
    rw [Lz.upF_succ]
    have h0 := hb 0
    split
    · exact h
    · split
      · split
        · simpa using hm
        · split
          · simpa using hm
          · refine up_len most hm f _ _ (fun i => by rw [Lz.g_drop]; exact hb _) ?_
            simp; omega
      · split
        · simpa using hm
        · split
          · simpa using hm
          · refine up_len most hm f _ _ (fun i => by rw [Lz.g_drop]; exact hb _) ?_
            rw [Lz.cp_length]; omega
theorem take_len (T : Nat → Nat) {z : List Int} (h : Bytes z) (at' : Int) : (take T z at').1.length ≤ 128 := by
  unfold take
  split
  · simp
  · rename_i n sz hsp
    obtain ⟨s1, s2, s3, s4, s5⟩ := spot_some hsp
    have hb := bsz_bd n
    have hl := body_length s2
    have hbb : Bytes (body z at'.toNat sz) := (h.drop _).take _
    split
    · simp
    · split
      · simp
      · show (plain T n (body z at'.toNat sz)).length ≤ 128
        unfold plain
        split
        · simp
        · split
          · simp; omega
          · unfold Lz.unpack Lz.up
            rw [if_neg (by omega)]
            have := up_len 128 (by omega) ((body z at'.toNat sz).drop 4).length ((body z at'.toNat sz).drop 4) [] (fun i => ((hbb.drop 4).g i).1) (by simp)
            omega
theorem take_next {T : Nat → Nat} {z : List Int} {at' : Int} (h : (take T z at').2.2 = 0) : 0 ≤ at' ∧ at' < (take T z at').2.1 ∧ (take T z at').2.1 ≤ z.length := by
  unfold take at h ⊢
  split
  · rename_i hsp; rw [hsp] at h; simp at h
  · rename_i n sz hsp
    rw [hsp] at h
    obtain ⟨s1, s2, s3, s4, s5⟩ := spot_some hsp
    split
    · rename_i h0; exact ⟨s1, by simp only []; omega, by simp only []; omega⟩
    · rename_i h0
      simp only [h0, if_false] at h
      split
      · rename_i h1; rw [if_pos h1] at h; simp at h
      · exact ⟨s1, by simp only []; omega, by simp only []; omega⟩
theorem take_err (T : Nat → Nat) (z : List Int) (at' : Int) : (take T z at').2.2 = 0 ∨ take T z at' = ([], 0, 2) := by
  unfold take
  split
  · exact .inr rfl
  · split
    · exact .inl rfl
    · split
      · exact .inr rfl
      · exact .inl rfl
theorem skip_next {z : List Int} {at' : Int} : (skip z at' = (0, 2)) ∨ ((skip z at').2 = 0 ∧ 0 ≤ at' ∧ at' < (skip z at').1 ∧ (skip z at').1 ≤ z.length) := by
  unfold skip
  split
  · exact .inl rfl
  · rename_i n sz hsp
    obtain ⟨s1, s2, s3, s4, s5⟩ := spot_some hsp
    exact .inr ⟨rfl, s1, by simp only []; omega, by simp only []; omega⟩
end Go.Proofs.Ytgmkldfjbjnkcaa.Mtr
namespace Go.Proofs.Ytgmkldfjbjnkcaa
set_option linter.unusedVariables false
open Go.RowKit Go.Maps
open Lz (g)
open Crc (ent)
open Frm

theorem heap_setCells_self {p : Nat} {t : TypeId} {fz : Nat × Nat} : ∀ (vs : List Value) (o : Nat) (w : World) (cur : Array Value), w.heap[p]? = some (.cells cur t fz) → ∃ cur', (w.setCells p o vs).heap[p]? = some (.cells cur' t fz)
  | [], _, _, cur, h => ⟨cur, h⟩
  | v :: r, o, w, cur, h => heap_setCells_self r (o + 1) _ _ (heap_setCell_self h v)
theorem size_setCells (b : Nat) : ∀ (vs : List Value) (o : Nat) (w : World), (w.setCells b o vs).heap.size = w.heap.size
  | [], _, _ => rfl
  | v :: r, o, w => by rw [World.setCells, size_setCells b r (o + 1)]; simp [World.setCell]
theorem setCells_other (b : Nat) : ∀ (vs : List Value) (o : Nat) (w : World) (k : Nat), k ≠ b → (w.setCells b o vs).heap[k]? = w.heap[k]?
  | [], _, _, _, _ => rfl
  | v :: r, o, w, k, h => by rw [World.setCells, setCells_other b r (o + 1) _ k h, Below.heap_setCell _ _ _ _ h]
theorem setCells_tape (b : Nat) : ∀ (vs : List Value) (o : Nat) (w : World), (w.setCells b o vs).tape = w.tape
  | [], _, _ => rfl
  | v :: r, o, w => by rw [World.setCells, setCells_tape b r (o + 1)]; simp [World.setCell]
theorem grown_setCells (w : World) (b o : Nat) (vs : List Value) : w.grownBy (w.setCells b o vs) (some b) :=
  ⟨World.os_setCells w b o vs, setCells_tape b vs o w, World.output_setCells w b o vs, by rw [size_setCells]; exact Nat.le_refl _, fun k _ hk => setCells_other b vs o w k (fun e => hk (by rw [e]))⟩
theorem Fr.of_setCells (S : Nat → Prop) (w : World) (b o : Nat) (vs : List Value) (h : S b) : Fr S w (w.setCells b o vs) :=
  Fr.of_grown (grown_setCells w b o vs) (fun k hk => by cases hk; exact h)

/-- A row of the call's own, wherever in its block it begins. -/
def Rw (w : World) (B : Nat) (ao : Option Addr) (n c : Nat) (zs : List Int) : Prop :=
  zs.length = n ∧ Bytes zs ∧ n ≤ c ∧ c ≤ maxLen ∧ ((ao = none ∧ c = 0) ∨ ∃ gb off, ao = some ⟨gb, off, none⟩ ∧ B ≤ gb ∧ (∃ cur, w.heap[gb]? = some (.cells cur 5 (0, 0))) ∧
    (∀ i, i < n → w.cell? ⟨gb, off + i, none⟩ = some (.int .u8 (g zs i))) ∧ ∀ i, i < c → (w.cell? ⟨gb, off + i, none⟩).isSome = true)
theorem Rw.none (w : World) (B : Nat) : Rw w B none 0 0 [] := ⟨rfl, Bytes.nil, Nat.le_refl _, Nat.zero_le _, .inl ⟨rfl, rfl⟩⟩
theorem Rw.bs {w : World} {B n c : Nat} {ao : Option Addr} {zs : List Int} (h : Rw w B ao n c zs) : Bs w ao n zs := by
  obtain ⟨h1, h2, h3, h4, h5⟩ := h
  refine ⟨h1, h2.g, ?_⟩
  rcases h5 with ⟨_, h5⟩ | ⟨gb, off, h5, h6, ⟨cur, h7⟩, h8, h9⟩
  · exact .inl (by omega)
  · exact .inr ⟨gb, off, h5, heap_lt h7, fun i hi => h8 i (by omega)⟩
theorem Rw.nil {w : World} {B n c : Nat} {ao : Option Addr} {zs : List Int} (h : Rw w B ao n c zs) : ao = Option.none → c = 0 := by
  intro e
  rcases h.2.2.2.2 with ⟨_, h5⟩ | ⟨gb, off, h5, _⟩
  · exact h5
  · rw [e] at h5; simp at h5
theorem Rw.own {w : World} {B n c : Nat} {ao : Option Addr} {zs : List Int} (h : Rw w B ao n c zs) {k : Nat} (hk : (Value.slice ao n c).ownBlock = some k) : B ≤ k ∧ k < w.heap.size ∧ ∃ cur, w.heap[k]? = some (.cells cur 5 (0, 0)) := by
  rcases h.2.2.2.2 with ⟨rfl, _⟩ | ⟨gb, off, rfl, h6, h7, _⟩
  · simp [Value.ownBlock] at hk
  · simp [Value.ownBlock] at hk
    subst hk
    obtain ⟨cur, h7⟩ := h7
    exact ⟨h6, heap_lt h7, cur, h7⟩
theorem Rw.fr {S : Nat → Prop} {w w' : World} {B n c : Nat} {ao : Option Addr} {zs : List Int} (h : Rw w B ao n c zs) (hf : Fr S w w') (hn : ∀ k, (Value.slice ao n c).ownBlock = some k → ¬ S k) : Rw w' B ao n c zs := by
  obtain ⟨h1, h2, h3, h4, h5⟩ := h
  refine ⟨h1, h2, h3, h4, ?_⟩
  rcases h5 with h5 | ⟨gb, off, rfl, h6, ⟨cur, h7⟩, h8, h9⟩
  · exact .inl h5
  · have hlt := heap_lt h7
    have hb := hf.block gb hlt (hn gb rfl)
    refine .inr ⟨gb, off, rfl, h6, ⟨cur, hb.trans h7⟩, fun i hi => (World.cell?_of_block (w := w) (a := ⟨gb, off + i, Option.none⟩) hb).trans (h8 i hi), fun i hi => ?_⟩
    rw [World.cell?_of_block (w := w) (a := ⟨gb, off + i, Option.none⟩) hb]; exact h9 i hi
theorem Rw.of_owns {w : World} {B n c : Nat} {ao : Option Addr} {zs : List Int} (h : w.ownsRow B 5 1 (.slice ao n c) n (bv zs)) (hb : Bytes zs) : Rw w B ao n c zs := by
  have hlen : zs.length = n := by have := h.1; rw [bv_length] at this; omega
  have h0 := h
  rcases h.2 with ⟨e, _⟩ | ⟨gb, cap, cur, e, h1, h2, h3, h4, h5, h6⟩
  · simp at e
    obtain ⟨rfl, rfl, rfl⟩ := e
    exact ⟨hlen, hb, Nat.le_refl _, Nat.zero_le _, .inl ⟨rfl, rfl⟩⟩
  · simp at e
    obtain ⟨rfl, rfl⟩ := e
    refine ⟨hlen, hb, h3, h4, .inr ⟨gb, 0, rfl, h1, ⟨cur, h2⟩, fun i hi => ?_, fun i hi => ?_⟩⟩
    · rw [Nat.zero_add, h0.cellAt i (by omega)]
      unfold bv
      rw [List.getElem?_map, List.getElem?_eq_getElem (by omega), Lz.g_lt _ _ (by omega)]; rfl
    · rw [Nat.zero_add, cell_of_row _ _ i _ _ _ h2]
      rw [Array.getElem?_eq_getElem (by omega)]; rfl
theorem Rw.mono {w : World} {B B' n c : Nat} {ao : Option Addr} {zs : List Int} (h : Rw w B ao n c zs) (hb : B' ≤ B) : Rw w B' ao n c zs := by
  obtain ⟨h1, h2, h3, h4, h5⟩ := h
  refine ⟨h1, h2, h3, h4, ?_⟩
  rcases h5 with h5 | ⟨gb, off, rfl, h6, h7⟩
  · exact .inl h5
  · exact .inr ⟨gb, off, rfl, Nat.le_trans hb h6, h7⟩
/-- The rest of it. -/
theorem Rw.drop {w : World} {B n c : Nat} {ao : Option Addr} {zs : List Int} (h : Rw w B ao n c zs) (k : Nat) (hk : k ≤ n) : Rw w B (if c = k then ao else Option.map (fun x => x.add k) ao) (n - k) (c - k) (zs.drop k) := by
  obtain ⟨h1, h2, h3, h4, h5⟩ := h
  refine ⟨by simp; omega, h2.drop k, by omega, by omega, ?_⟩
  rcases h5 with ⟨rfl, h5⟩ | ⟨gb, off, rfl, h6, h7, h8, h9⟩
  · exact .inl ⟨by simp, by omega⟩
  · by_cases e : c = k
    · rw [if_pos e]
      exact .inr ⟨gb, off, rfl, h6, h7, fun i hi => by omega, fun i hi => by omega⟩
    · rw [if_neg e]
      refine .inr ⟨gb, off + k, by simp [Addr.add_lit], h6, h7, fun i hi => ?_, fun i hi => ?_⟩
      · rw [Nat.add_assoc, Lz.g_drop]; exact h8 (k + i) (by omega)
      · rw [Nat.add_assoc]; exact h9 (k + i) (by omega)
theorem rw_own_drop (ao : Option Addr) (n c n' c' k : Nat) (j : Nat) (h : (Value.slice (if c = k then ao else Option.map (fun x => x.add k) ao) n' c').ownBlock = some j) : (Value.slice ao n c).ownBlock = some j := by
  cases ao with
  | none => simp [Value.ownBlock] at h
  | some a =>
    obtain ⟨b, o, s⟩ := a
    by_cases e : c = k
    · rw [if_pos e] at h; simpa [Value.ownBlock] using h
    · rw [if_neg e] at h
      simp only [Option.map_some] at h
      by_cases e0 : k = 0
      · cases s <;> simpa [Value.ownBlock, Addr.add, e0] using h
      · cases s <;> simpa [Value.ownBlock, Addr.add, e0] using h

set_option maxHeartbeats 400000 in
/-- 'append' to such a row, of bytes wherever they lie. -/
theorem run_append_rw (w : World) (ty : TypeId) {B n vc m c : Nat} {vo ao : Option Addr} {xs zs : List Int} (h : Rw w B vo n vc xs) (hB : B ≤ w.heap.size) (hb : Bs w ao m zs) (hnil : ao = none → c = 0) (hbd : n + m ≤ 100000000) :
    ∃ ao' c' w', (Builtin.append_ #[30, 30] ty #[.slice vo n vc, .slice ao m c]).run Try.prog w = .ok (.slice ao' (n + m) c') w' ∧ Rw w' B ao' (n + m) c' (xs ++ zs) ∧ w.grownBy w' (Value.slice vo n vc).ownBlock ∧ Lie w (.slice vo n vc) (.slice ao' (n + m) c') := by
  obtain ⟨i0, hi, hz0, hz1, hz2⟩ := info_parts infoByte
  obtain ⟨hz, hby, h0⟩ := hb
  have hbz : Bytes zs := Bytes.of_g hby
  have hR := h
  obtain ⟨h1, h2, h3, h4, h5⟩ := h
  cases ao with
  | none =>
    obtain rfl : c = 0 := hnil rfl
    obtain rfl : m = 0 := by
      rcases h0 with h0 | ⟨b, off, h1, _⟩
      · exact h0
      · simp at h1
    obtain rfl : zs = [] := List.eq_nil_of_length_eq_zero hz
    refine ⟨vo, vc, w, ?_, by simpa using hR, World.grownBy.refl _ _, Lie.refl _ _⟩
    rcases h5 with ⟨rfl, rfl⟩ | ⟨gb, off, rfl, h6, h7, h8, h9⟩
    · obtain rfl : n = 0 := by omega
      simp [Builtin.append_, run_underlying Try.underlying30, sizeOf, typeInfo, hi, Builtin.lenOf, Builtin.firstCells]
    · simp [Builtin.append_, run_underlying Try.underlying30, sizeOf, typeInfo, hi, Builtin.lenOf, Builtin.firstCells, loadCells, storeCells, h3]
  | some ad =>
    have hnews : ∀ j u, (bv zs)[j]? = some u → w.cell? (ad.add j) = some u := by
      rcases h0 with h0 | ⟨b, off, e1, _, hseg⟩
      · have : zs = [] := List.eq_nil_of_length_eq_zero (by omega)
        subst this
        intro j u hu; simp [bv] at hu
      · obtain rfl := Option.some.inj e1
        have := news_seg hseg m
        rw [List.take_of_length_le (by omega)] at this
        exact this
    have hby2 : Bytes (xs ++ zs) := h2.append hbz
    have hlb : (bv zs).length = m * 1 := by rw [bv_length]; omega
    rcases h5 with ⟨rfl, rfl⟩ | ⟨gb, off, rfl, h6, h7, h8, h9⟩
    · obtain rfl : n = 0 := by omega
      obtain rfl : xs = [] := List.eq_nil_of_length_eq_zero h1
      obtain ⟨v', w', hrun, r1, r2, _⟩ := run_append_own (P := Try.prog) w w.heap.size 30 ty 5 i0 (.int .u8 0) 1 1 Try.underlying30 hi hz0 hz1 hz2 rfl (by decide) (.slice none 0 0) 0 [] (World.ownsRow_nil w _ _ _) ad m c (bv zs) hlb hnews (bv_one _) (by unfold maxLen; omega) (by omega) (Nat.le_refl _)
      obtain ⟨ao', c', rfl⟩ := owns_shape r1
      rw [show ([] : List Value) ++ bv zs = bv ([] ++ zs) by simp] at r1
      exact ⟨ao', c', w', hrun, (Rw.of_owns r1 hby2).mono hB, r2, fun k hk => .inr (r1.lt k hk).1⟩
    · by_cases hr : n + m ≤ vc
      · have hcs : ∀ j, j < (bv zs).length → (w.cell? ⟨gb, off + n * i0.size + j, none⟩).isSome = true := fun j hj => by
          rw [hz1, Nat.mul_one, Nat.add_assoc]; exact h9 (n + j) (by rw [bv_length] at hj; omega)
        obtain ⟨cur, h7'⟩ := h7
        have hfz : ∀ j, w.frozen? ⟨gb, j, none⟩ = false := fun j => by simp [World.frozen?, h7']
        have hrun := run_append_room_cells (P := Try.prog) w 30 ty 5 i0 Try.underlying30 hi gb off n vc ad m c (bv zs) (by rw [hz1]; exact hlb) hnews (bv_one _) hr hcs (fun j hj => hfz _)
        rw [hz1, Nat.mul_one] at hrun hcs
        refine ⟨some ⟨gb, off, none⟩, vc, _, hrun, ⟨by simp; omega, hby2, hr, h4, .inr ⟨gb, off, rfl, h6, heap_setCells_self _ _ _ _ h7', fun i hi' => ?_, fun i hi' => World.isSome_setCells gb _ _ _ _ (h9 i hi')⟩⟩, grown_setCells _ _ _ _, fun k hk => .inl hk⟩
        by_cases e : i < n
        · rw [World.cell?_setCells_out gb _ _ _ _ (fun _ _ => .inl (by show off + i < off + n; omega)), Lz.g_append_left _ _ _ (by omega)]
          exact h8 i e
        · have hj : i - n < (bv zs).length := by rw [bv_length]; omega
          have := World.cell?_setCells_in gb (bv zs) (off + n) w hcs (i - n) hj
          rw [show off + n + (i - n) = off + i by omega] at this
          rw [this]
          have hzl : i - n < zs.length := by omega
          have e1 : (bv zs)[i - n] = .int .u8 (g zs (i - n)) := by
            have hz' := Lz.g_lt zs (i - n) hzl
            rw [hz']; simp [bv]
          have e2 : g (xs ++ zs) i = g zs (i - n) := by
            have := Frm.g_app_r (a := xs) (b := zs) h1 (i - n)
            rw [show n + (i - n) = i by omega] at this
            exact this
          rw [e1, e2]
      · obtain ⟨v', w', hrun, r1, r2⟩ := run_append_arg_grows (P := Try.prog) w 30 ty 5 i0 (.int .u8 0) 1 1 Try.underlying30 hi hz0 hz1 hz2 rfl (by decide) ⟨gb, off, none⟩ n vc (bv xs) (by rw [bv_length]; omega) (fun j u hu => by
            rw [Addr.add_lit]
            have hj : j < xs.length := by have := (List.getElem?_eq_some_iff.1 hu).1; rwa [bv_length] at this
            rw [h8 j (by omega), ← hu]
            have hx' := Lz.g_lt xs j hj
            rw [hx']; simp [bv, hj]) ad m c (bv zs) hlb hnews (by omega) (by unfold maxLen; omega) (by omega)
        obtain ⟨ao', c', rfl⟩ := owns_shape r1
        rw [← bv_append] at r1
        refine ⟨ao', c', w', hrun, (Rw.of_owns r1 hby2).mono hB, ⟨r2.os, r2.tape, r2.output, r2.size, fun k hk _ => r2.block k hk (by simp)⟩, fun k hk => .inr (r1.lt k hk).1⟩
/-- .. for the walk. -/
theorem wpList_append_rw (w : World) {ops : Array Oper} {rest : List Oper} {o : Oper} {a : Act} {Q : Exit → Act → World → Prop} (hgd : o.guard = none) (s x : Operand)
    (ho : o.op = .call { callee := .builtin .append, args := #[s, x], argTypes := #[30, 30] })
    (B : Nat) (vo : Option Addr) (n vc : Nat) (xs : List Int) (hs : a.eval s = .slice vo n vc) (hR : Rw w B vo n vc xs)
    (ao : Option Addr) (m c : Nat) (zs : List Int) (hx : a.eval x = .slice ao m c) (hb : Bs w ao m zs) (hnil : ao = none → c = 0)
    (hbd : n + m ≤ 100000000) (hB : B ≤ w.heap.size)
    (h : ∀ ao' c' w', Rw w' B ao' (n + m) c' (xs ++ zs) → w.grownBy w' (Value.slice vo n vc).ownBlock → Lie w (.slice vo n vc) (.slice ao' (n + m) c') → wpList Try.prog ops Q rest (a.put o.dst (.slice ao' (n + m) c')) w') :
    wpList Try.prog ops Q (o :: rest) a w := by
  refine wpList_plain hgd fun K hK => ?_
  obtain ⟨ao', c', w', hrun, r1, r2, r3⟩ := run_append_rw w o.type hR hB hb hnil hbd
  unfold Oper.wp
  simp [execOp, ho, resolve, invoke, builtin, hs, hx, hrun, Result.andThen]
  exact hK _ _ (h ao' c' w' r1 r2 r3)
theorem Tb.fr {S : Nat → Prop} {w w' : World} {b : Nat} {T : Nat → Nat} (h : Tb w b T) (hf : Fr S w w') (hlt : b < w.heap.size) (hn : ¬ S b) : Tb w' b T := fun i hi => (hf.cell (q := ⟨b, i, none⟩) hlt hn).trans (h i hi)
/-- One append, as a step of a region that draws. -/
theorem step_append_rw (w : World) {ops : Array Oper} {o : Oper} {a : Act} {K : Act → World → Prop} {Q : Exit → Act → World → Prop} {E : Prop} (hgd : o.guard = none) (s x : Operand)
    (ho : o.op = .call { callee := .builtin .append, args := #[s, x], argTypes := #[30, 30] })
    (B : Nat) (vo : Option Addr) (n vc : Nat) (xs : List Int) (hs : a.eval s = .slice vo n vc) (hR : Rw w B vo n vc xs)
    (ao : Option Addr) (m c : Nat) (zs : List Int) (hx : a.eval x = .slice ao m c) (hb : Bs w ao m zs) (hnil : ao = none → c = 0)
    (hbd : n + m ≤ 100000000) (hB : B ≤ w.heap.size)
    (h : ∀ ao' c' w', Rw w' B ao' (n + m) c' (xs ++ zs) → w.grownBy w' (Value.slice vo n vc).ownBlock → Lie w (.slice vo n vc) (.slice ao' (n + m) c') → K (a.put o.dst (.slice ao' (n + m) c')) w') :
    if Region.wanted o (yielded ops a.tmps) = true then Oper.wp Try.prog o a w K Q else E := by
  have hw : Region.wanted o (yielded ops a.tmps) = true := by simp [Region.wanted, hgd]
  rw [if_pos hw]
  obtain ⟨ao', c', w', hrun, r1, r2, r3⟩ := run_append_rw w o.type hR hB hb hnil hbd
  unfold Oper.wp
  simp [execOp, ho, resolve, invoke, builtin, hs, hx, hrun, Result.andThen]
  exact h ao' c' w' r1 r2 r3
set_option maxRecDepth 100000 in
theorem CloneRw_any (n c : Nat) (ao : Option Addr) (zs : List Int) (w : World) (hb : Bs w ao n zs) (hc : n ≤ c) (hnil : ao = none → c = 0) (hn : n ≤ 100000000) :
    Calls Try.prog 18 #[.slice ao n c] w fun r w' => ∃ ao' c', r = .returned (.slice ao' n c') ∧ Rw w' w.heap.size ao' n c' zs ∧ Below w.heap.size w w' := by
  cases ao with
  | none =>
    obtain rfl : c = 0 := hnil rfl
    obtain rfl : n = 0 := by omega
    obtain rfl : zs = [] := List.eq_nil_of_length_eq_zero hb.1
    clear hnil hb
    have hq : ∀ w : World, (binOp .eql 30 (.slice none 0 0) (.slice none 0 0)).run Try.prog w = .ok (.bool true) w := fun w => eql_nil w none 0 0
    go_enter Try.func18, Try.ntmps18
    go_wp2
    go_ret
    exact ⟨_, _, rfl, Rw.none _ _, Below.refl _ _⟩
  | some a =>
    clear hnil
    have hq : ∀ w : World, (binOp .eql 30 (.slice (some a) n c) (.slice none 0 0)).run Try.prog w = .ok (.bool false) w := fun w => eql_nil w (some a) n c
    have ho := emptyB (w := w) (Nat.le_refl _)
    have hb2 := hb.alloc (.cells #[] 5)
    go_enter Try.func18, Try.ntmps18
    go_wp2_with (first
      | (at_builtin; refine wpList_append_bs _ rfl (.tmp 5) (.tmp 6) rfl w.heap.size _ _ _ _ rfl ho _ n c zs rfl hb2 (fun h => by simp at h) (by omega) (by simp) ?_; intro ao' c' w1 ho1 hg1))
    go_ret
    rw [Nat.zero_add, List.nil_append] at ho1
    refine ⟨ao', c', rfl, Rw.of_owns ho1 hb.bytes, (((Below.refl _ w).alloc (Nat.le_refl _) _)).grown hg1 (by simp) (fun k e => (ho.lt k e).1)⟩

/-- What is its own is new, or was. -/
def Gr (O O' : Nat → Prop) (w : World) : Prop := ∀ k, O' k → O k ∨ w.heap.size ≤ k
theorem Gr.refl (O : Nat → Prop) (w : World) : Gr O O w := fun k h => .inl h
theorem Gr.trans {O O' O'' : Nat → Prop} {w w' : World} (h : Gr O O' w) (h' : Gr O' O'' w') (hs : w.heap.size ≤ w'.heap.size) : Gr O O'' w := fun k hk => by
  rcases h' k hk with h1 | h1
  · exact h k h1
  · exact .inr (by omega)
theorem Fr.gr {O O' : Nat → Prop} {a b c : World} (h : Fr O a b) (hg : Gr O O' a) (h' : Fr O' b c) : Fr O a c := h.trans h' fun i hi hx => by
  rcases hg i hx with h1 | h1
  · exact h1
  · omega
theorem New.undrew {w w' : World} {ao : Option Addr} {n c : Nat} {zs : List Int} (h : New w.drew w' ao n c zs) : New w w' ao n c zs := ⟨h.bs, h.cap, h.max, h.nil, ⟨h.bel.os, h.bel.tape, h.bel.output, h.bel.size, h.bel.block⟩, h.own⟩
theorem Fr.undrewN {S : Nat → Prop} {a b : World} {n : Nat} (h : Fr S (a.drewN n) b) : Fr S a b := ⟨h.os, h.tape, h.output, h.size, h.block⟩
end Go.Proofs.Ytgmkldfjbjnkcaa

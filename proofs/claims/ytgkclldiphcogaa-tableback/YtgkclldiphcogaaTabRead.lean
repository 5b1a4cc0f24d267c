/- Layer 11: a row's bytes, as many as asked for: pure; by the program's reader and by the document's. -/
import Derived.Test.YtgkclldiphcogaaMetJoin
import Derived.Test.YtgkclldiphcogaaMetRefNx
namespace Go.Proofs.Ytgkclldiphcogaa
set_option linter.unusedVariables false
open Go.RowKit Go.Maps
open Lz (g)
open Crc (ent)
open Frm Mtr

namespace Mtr
/-- How far a ref is: more bytes than that come ahead of no ref that is read up to. -/
def far (ref : Int) : Int := 128 * (ref / 256) + ref % 256
theorem pt_far {T : Nat → Nat} {X : List Int} (hX : Bytes X) {ref : Int} {n : Nat} (hr : 0 ≤ ref) (hn : 0 < n) {p : List Int} {nx : Int} (h : pt T X ref n = some (p, nx)) : far ref + p.length ≤ far nx ∧ far nx ≤ 128 * X.length + 128 := by
  have hb := pt_bd hX hr hn h
  unfold pt at h
  have hl := take_len T hX (ref / 256)
  split at h
  · simp at h
  · rename_i hc
    have hc' := not_or.1 hc
    have h0 : (take T X (ref / 256)).2.2 = 0 := Decidable.not_not.1 hc'.1
    obtain ⟨t1, t2, t3⟩ := take_next h0
    have hnum := hc'.2
    generalize take T X (ref / 256) = t at *
    simp only [Option.some.injEq, Prod.mk.injEq] at h
    obtain ⟨h1, h2⟩ := h
    have hpl : p.length = min n (t.1.length - (ref % 256).toNat) := by rw [← h1]; simp
    rw [← hpl] at h2
    unfold far
    split at h2
    · subst h2
      omega
    · subst h2
      omega
/-- Parts are read one behind the other: no more bytes than the row has. -/
theorem rdF_far {T : Nat → Nat} {X : List Int} (hX : Bytes X) : ∀ (f : Nat) (ref : Int) (n : Nat) (z : List Int) (nx : Int), 0 ≤ ref → rdF T X f ref n = some (z, nx) → z.length = n ∧ 0 ≤ nx ∧ Bytes z ∧ (n = 0 ∨ (far ref + n ≤ far nx ∧ far nx ≤ 128 * X.length + 128 ∧ nx ≤ 256 * X.length + 256))
  | 0, ref, n, z, nx, hr, h => by
    unfold rdF at h
    split at h
    · rename_i h0
      simp at h
      obtain ⟨rfl, rfl⟩ := h
      exact ⟨by simp [h0], hr, Bytes.nil, .inl h0⟩
    · simp at h
  | f + 1, ref, n, z, nx, hr, h => by
    by_cases h0 : n = 0
    · subst h0
      rw [rdF_zero] at h
      simp at h
      obtain ⟨rfl, rfl⟩ := h
      exact ⟨rfl, hr, Bytes.nil, .inl rfl⟩
    · cases hp : pt T X ref n with
      | none => rw [rdF_none h0 hp] at h; cases h
      | some q =>
        obtain ⟨p, nx1⟩ := q
        rw [rdF_some h0 hp] at h
        obtain ⟨b1, b2, b3, b4, b5, b6⟩ := pt_bd hX hr (by omega) hp
        obtain ⟨f1, f2⟩ := pt_far hX hr (by omega) hp
        cases hq : rdF T X f nx1 (n - p.length) with
        | none => rw [hq] at h; simp at h
        | some q =>
          obtain ⟨z1, nx2⟩ := q
          rw [hq] at h
          simp at h
          obtain ⟨rfl, rfl⟩ := h
          obtain ⟨r1, r2, r3, r4⟩ := rdF_far hX f nx1 (n - p.length) z1 nx2 b5 hq
          refine ⟨by simp; omega, r2, b4.append r3, .inr ?_⟩
          rcases r4 with r4 | ⟨r4, r5, r6⟩
          · have e : rdF T X f nx1 (n - p.length) = some ([], nx1) := by rw [r4, rdF_zero]
            rw [e] at hq
            simp at hq
            obtain ⟨_, rfl⟩ := hq
            refine ⟨by omega, f2, b6⟩
          · exact ⟨by omega, r5, r6⟩
/-- Fuel is of no account. -/
theorem rdF_fuel {T : Nat → Nat} {X : List Int} (hX : Bytes X) : ∀ (f f' : Nat) (ref : Int) (n : Nat), 0 ≤ ref → n ≤ f → n ≤ f' → rdF T X f ref n = rdF T X f' ref n
  | 0, f', ref, n, hr, h, h' => by
    obtain rfl : n = 0 := by omega
    rw [rdF_zero, rdF_zero]
  | f + 1, 0, ref, n, hr, h, h' => by
    obtain rfl : n = 0 := by omega
    rw [rdF_zero, rdF_zero]
  | f + 1, f' + 1, ref, n, hr, h, h' => by
    by_cases h0 : n = 0
    · subst h0; rw [rdF_zero, rdF_zero]
    · cases hp : pt T X ref n with
      | none => rw [rdF_none h0 hp, rdF_none h0 hp]
      | some q =>
        obtain ⟨p, nx1⟩ := q
        obtain ⟨b1, b2, b3, b4, b5, b6⟩ := pt_bd hX hr (by omega) hp
        rw [rdF_some h0 hp, rdF_some h0 hp, rdF_fuel hX f f' nx1 (n - p.length) b5 (by omega) (by omega)]
/-- A part is cut: of fewer bytes asked for, fewer come, and the rest behind them. -/
theorem pt_cut {T : Nat → Nat} {X : List Int} (hX : Bytes X) {ref : Int} (hr : 0 ≤ ref) (a b : Nat) (ha : 0 < a) {p : List Int} {nx : Int} (h : pt T X ref (a + b) = some (p, nx)) :
    (p.length ≤ a ∧ pt T X ref a = some (p, nx)) ∨ (a < p.length ∧ ∃ nx1, 0 ≤ nx1 ∧ pt T X ref a = some (p.take a, nx1) ∧ pt T X nx1 b = some (p.drop a, nx)) := by
  have hl := take_len T hX (ref / 256)
  unfold pt at h
  split at h
  · simp at h
  · rename_i hc
    have hc' := not_or.1 hc
    have h0 : (take T X (ref / 256)).2.2 = 0 := Decidable.not_not.1 hc'.1
    have hnum := hc'.2
    have e1 : pt T X ref a = some (((take T X (ref / 256)).1.drop (ref % 256).toNat).take a,
      if ref % 256 + (min a ((take T X (ref / 256)).1.length - (ref % 256).toNat) : Nat) = 128 then 256 * (take T X (ref / 256)).2.1 else 256 * (ref / 256) + (ref % 256 + (min a ((take T X (ref / 256)).1.length - (ref % 256).toNat) : Nat))) := by
      unfold pt; rw [if_neg hc]
    simp only [Option.some.injEq, Prod.mk.injEq] at h
    obtain ⟨h1, h2⟩ := h
    have hpl : p.length = min (a + b) ((take T X (ref / 256)).1.length - (ref % 256).toNat) := by rw [← h1]; simp
    by_cases hle : p.length ≤ a
    · refine .inl ⟨hle, ?_⟩
      rw [e1]
      have hm : min a ((take T X (ref / 256)).1.length - (ref % 256).toNat) = min (a + b) ((take T X (ref / 256)).1.length - (ref % 256).toNat) := by omega
      rw [hm, h2, ← h1]
      congr 2
      rw [List.take_eq_take_iff]
      simp
      omega
    · refine .inr ⟨by omega, 256 * (ref / 256) + (ref % 256 + (a : Nat)), by omega, ?_, ?_⟩
      · rw [e1]
        have hm : min a ((take T X (ref / 256)).1.length - (ref % 256).toNat) = a := by omega
        rw [hm, if_neg (by omega), ← h1]
        congr 2
        rw [List.take_take]
        congr 1
        omega
      · have q1 : (256 * (ref / 256) + (ref % 256 + (a : Int))) / 256 = ref / 256 := by omega
        have q2 : (256 * (ref / 256) + (ref % 256 + (a : Int))) % 256 = ref % 256 + a := by omega
        unfold pt
        rw [q1, q2, if_neg (by
          rw [not_or]
          exact ⟨by simpa using h0, by omega⟩)]
        have q3 : (ref % 256 + (a : Int)).toNat = (ref % 256).toNat + a := by omega
        rw [q3]
        congr 1
        refine Prod.ext ?_ ?_
        · show ((take T X (ref / 256)).1.drop ((ref % 256).toNat + a)).take b = p.drop a
          rw [← h1, List.drop_take, List.drop_drop]
          congr 1
          omega
        · show (if _ then _ else _) = nx
          rw [← h2]
          have hm : (ref % 256 + (a : Int)) + ((min b ((take T X (ref / 256)).1.length - ((ref % 256).toNat + a)) : Nat) : Int) = ref % 256 + ((min (a + b) ((take T X (ref / 256)).1.length - (ref % 256).toNat) : Nat) : Int) := by omega
          rw [hm]
/-- Where there is no part of many bytes, there is none of a few. -/
theorem pt_none {T : Nat → Nat} {X : List Int} {ref : Int} {n m : Nat} (h : pt T X ref n = none) : pt T X ref m = none := by
  unfold pt at h ⊢
  split at h
  · rename_i hc; rw [if_pos hc]
  · cases h
/-- Bytes are read in two parts as they are read in one. -/
theorem rdF_add {T : Nat → Nat} {X : List Int} (hX : Bytes X) : ∀ (f : Nat) (ref : Int) (a b : Nat), 0 ≤ ref → a + b ≤ f → rdF T X f ref (a + b) = (rdF T X f ref a).bind fun q => (rdF T X f q.2 b).map fun r => (q.1 ++ r.1, r.2)
  | 0, ref, a, b, hr, h => by
    obtain rfl : a = 0 := by omega
    obtain rfl : b = 0 := by omega
    simp [rdF]
  | f + 1, ref, a, b, hr, h => by
    by_cases ha : a = 0
    · subst ha
      rw [rdF_zero, Nat.zero_add]
      simp
    · by_cases hb : b = 0
      · subst hb
        rw [Nat.add_zero]
        cases rdF T X (f + 1) ref a with
        | none => rfl
        | some q => simp [rdF_zero]
      · cases hp : pt T X ref (a + b) with
        | none => rw [rdF_none (by omega) hp, rdF_none ha (pt_none hp)]; rfl
        | some q =>
          obtain ⟨p, nx⟩ := q
          obtain ⟨b1, b2, b3, b4, b5, b6⟩ := pt_bd hX hr (by omega) hp
          rw [rdF_some (by omega) hp]
          rcases pt_cut hX hr a b (by omega) hp with ⟨hle, hpa⟩ | ⟨hlt, nx1, hn1, hpa, hpb⟩
          · rw [rdF_some ha hpa, show a + b - p.length = (a - p.length) + b by omega, rdF_add hX f nx (a - p.length) b b5 (by omega)]
            cases hq : rdF T X f nx (a - p.length) with
            | none => rfl
            | some q =>
              obtain ⟨z, n2⟩ := q
              obtain ⟨_, r2, _⟩ := rdF_far hX f nx (a - p.length) z n2 b5 hq
              simp only [Option.bind_some, Option.map_some]
              rw [rdF_fuel hX (f + 1) f n2 b r2 (by omega) (by omega), Option.map_map]
              congr 1
              funext r
              simp [List.append_assoc]
          · rw [rdF_some ha hpa]
            have e : a - (p.take a).length = 0 := by simp; omega
            rw [e, rdF_zero]
            simp only [Option.map_some, Option.bind_some, List.append_nil]
            rw [rdF_some hb hpb]
            rw [List.length_drop, show b - (p.length - a) = a + b - p.length by omega, Option.map_map]
            congr 1
            funext r
            simp [← List.append_assoc]
/-- What is read of a row, at any ref, or nothing. -/
def rdO (X : List Int) (ref : Int) (n : Nat) : Option (List Int × Int) := if ref < 0 then none else rd ent X ref n
theorem rdO_some {X z : List Int} (hX : Bytes X) {ref nx : Int} {n : Nat} (h : rdO X ref n = some (z, nx)) : 0 ≤ ref ∧ z.length = n ∧ 0 ≤ nx ∧ Bytes z ∧ (n = 0 ∨ (far ref + n ≤ far nx ∧ far nx ≤ 128 * X.length + 128 ∧ nx ≤ 256 * X.length + 256)) := by
  unfold rdO at h
  split at h
  · cases h
  · obtain ⟨h1, h2, h3, h4⟩ := rdF_far hX n ref n z nx (by omega) h
    exact ⟨by omega, h1, h2, h3, h4⟩
theorem rdO_zero (X : List Int) {ref : Int} (h : 0 ≤ ref) : rdO X ref 0 = some ([], ref) := by
  unfold rdO
  rw [if_neg (by omega)]
  exact rdF_zero ent X 0 ref
theorem rdO_add {X : List Int} (hX : Bytes X) (ref : Int) (a b : Nat) : rdO X ref (a + b) = (rdO X ref a).bind fun q => (rdO X q.2 b).map fun r => (q.1 ++ r.1, r.2) := by
  unfold rdO
  by_cases h : ref < 0
  · rw [if_pos h, if_pos h]; rfl
  · rw [if_neg h, if_neg h]
    unfold rd
    rw [rdF_add hX (a + b) ref a b (by omega) (Nat.le_refl _), rdF_fuel hX (a + b) a ref a (by omega) (by omega) (by omega)]
    cases hq : rdF ent X a ref a with
    | none => rfl
    | some q =>
      obtain ⟨z, n2⟩ := q
      obtain ⟨_, r2, _⟩ := rdF_far hX a ref a z n2 (by omega) hq
      simp only [Option.bind_some]
      rw [if_neg (by omega), rdF_fuel hX (a + b) b n2 b r2 (by omega) (by omega)]
end Mtr
/-- What a Read of any number of bytes answers. -/
def ReadsFar (w w' : World) (p tb N : Nat) (O : Nat → Prop) (T : Nat → Nat) (X : List Int) (ref : Int) (n : Nat) (r : Ending) : Prop :=
  ∃ O', RdM w' p O' tb T X (N + 1000000) ∧ Fr O w w' ∧ Gr O O' w ∧
    ((rd T X ref n = none ∧ r = .returned (.tuple #[.slice none 0 0, .int .i64 0, .int .i64 2])) ∨
     ∃ z nx ao c, rd T X ref n = some (z, nx) ∧ r = .returned (.tuple #[.slice ao n c, .int .i64 nx, .int .i64 0]) ∧ Bs w' ao n z ∧ n ≤ c ∧ c ≤ 9223372036854775807 ∧ (ao = none → c = 0) ∧ ∀ a, ao = some a → w.heap.size ≤ a.block ∧ ¬ O' a.block)
set_option maxRecDepth 100000 in
set_option maxHeartbeats 1000000 in
theorem mReadFar_any (p tb N : Nat) (O : Nat → Prop) (T : Nat → Nat) (X : List Int) (ref : Int) (n : Nat) (w : World) (h : RdM w p O tb T X N) (hT : Tb w tb T) (htb : tb < w.heap.size) (hOt : ¬ O tb) (hS : Small T) (hby : Bytes X)
    (hq : 0 ≤ ref ∧ ref ≤ 9223372036854775807) (hX : X.length ≤ 5000) (hN : N ≤ 900000000) (hn : n ≤ 9223372036854775807) :
    Calls Try.prog 48 #[.pointer (some ⟨p, 0, none⟩), .int .i64 ref, .int .i64 n] w fun r w' => ReadsFar w w' p tb N O T X ref n r := by
  have c1 := h.c1
  have g1 : decide (ref < 0) = false := by simp; omega
  have g2 : ((n : Int) < 0) = False := by simp
  have HH := hide h
  have HT := hide hT
  have HOt := hide hOt
  have HS := hide hS
  have HY := hide hby
  clear h hT hOt hS hby
  go_enter Try.func48, Try.ntmps48
  go_wp2_with fail
  go_loopw [1, 9] (fun s1 s9 wr => ∃ (vo : Option Addr) (k vc f : Nat) (rf' : Int) (out : List Int) (O1 : Nat → Prop), s9 = .slice vo k vc ∧ s1 = .int .i64 rf' ∧ (0 ≤ rf' ∧ rf' ≤ 9223372036854775807) ∧ k ≤ n ∧ Rw wr w.heap.size vo k vc out ∧ RdM wr p O1 tb T X (N + k) ∧ Fr O w wr ∧ Gr O O1 w ∧
    (∀ j, (Value.slice vo k vc).ownBlock = some j → ¬ O1 j) ∧ n - k ≤ f ∧ ((k : Int) ≤ far rf') ∧ (k = 0 ∨ far rf' ≤ 128 * X.length + 128) ∧ Hid (rd T X ref n = (rdF T X f rf' (n - k)).map fun q => (out ++ q.1, q.2))) (fun _ s9 _ => n - (match s9 with | .slice _ k _ => k | _ => 0))
  case atStart => exact ⟨none, 0, 0, n, ref, [], O, rfl, rfl, hq, Nat.zero_le _, Rw.none _ _, HH.out, Fr.refl _ _, Gr.refl _ _, fun j hj => by simp [Value.ownBlock] at hj, by omega, by unfold far; omega, .inl rfl, by
    show rd T X ref n = _
    unfold rd
    simp⟩
  case round =>
    obtain ⟨vo, k, vc, f, rf', out, O1, rfl, rfl, hr', hkn, hv, hR, hF, hG, hno, hf, hfa, hfb, HE⟩ := hrel
    have hkb : k ≤ 700000 := by omega
    by_cases hlt : k < n
    · have i1 : (k : Int) < (n : Int) := by omega
      have e1 : (n : Int) - (k : Int) = ((n - k : Nat) : Int) := by omega
      have HK := hide (part_any p tb (N + k) O1 T X rf' (n - k) wr hR (HT.out.fr hF htb HOt.out) (Nat.lt_of_lt_of_le htb hF.size) (fun hx => by
        rcases hG tb hx with h | h
        · exact HOt.out h
        · omega) HS.out HY.out hr' (by omega) (by omega) (by omega))
      rw [← e1] at HK
      have HV := hide hv
      have HFr := hide hF
      have HGr := hide hG
      have HNo := hide hno
      clear hv hR hF hG hno e1
      go_wp2_with fail
      refine HK.out.mono ?_
      rintro r w1 ⟨O2, hR1, hF1, hG1, ⟨hp, rfl⟩ | ⟨z, nx, m, ao, c, hp, hm, rfl, hB, hnil, hown⟩⟩
      · have HX : Hid (ReadsFar w w1 p tb N O T X ref n (.returned (.tuple #[.slice none 0 0, .int .i64 0, .int .i64 2]))) :=
          ⟨O2, hR1.mono (by omega), HFr.out.gr HGr.out hF1, HGr.out.trans hG1 HFr.out.size, .inl ⟨rd_none HE.out hf (by omega) hp, rfl⟩⟩
        clear hR1 hF1 hG1 HK hp
        go_wp2
        go_ret3
        exact HX.out
      · obtain ⟨b1, b2, b3, b4, b5, b6⟩ := pt_bd HY.out hr'.1 (by omega) hp
        obtain ⟨d1, d2⟩ := pt_far HY.out hr'.1 (by omega) hp
        rw [hm] at b1 b2 b3 d1
        have HE2 : Hid (rd T X ref n = (rdF T X (f - 1) nx (n - (k + m))).map fun q => ((out ++ z) ++ q.1, q.2)) := by
          have := rd_some HE.out hf (by omega) hp hm
          rw [show n - k - m = n - (k + m) by omega] at this
          exact this
        have hnx : nx ≤ 9223372036854775807 := by omega
        have HR1 := hide hR1
        have HF1 := hide hF1
        have HG1 := hide hG1
        have HB := hide hB
        have HNil := hide hnil
        have hVl : Rw w1 w.heap.size vo k vc out := HV.out.fr hF1 HNo.out
        have HV1 := hide hVl
        have hB1 : w.heap.size ≤ w1.heap.size := Nat.le_trans HFr.out.size hF1.size
        clear hR1 hF1 hG1 hB hnil hp hVl HK hown hm b3 b4 b6
        go_wp2_with (first
          | (at_builtin; refine wpList_append_rw _ rfl (.tmp 41) (.tmp 42) rfl w.heap.size vo k vc out rfl HV1.out ao m c z rfl HB.out HNil.out (by omega) hB1 ?_
             intro ao' c' w2 hA hg hl
             have HX := hide (read_step (N' := N + (k + m)) hA HV.out HNo.out HFr.out HGr.out HR1.out HF1.out HG1.out hg hl (by omega))
             have HA := hide hA
             clear hA hg hl))
        go_roundw
        case rel =>
          obtain ⟨x1, x2, x3, x4⟩ := HX.out
          exact ⟨ao', k + m, c', f - 1, nx, out ++ z, O2, rfl, rfl, ⟨b5, hnx⟩, by omega, HA.out, x1, x2, x3, x4, by omega, by omega, .inr d2, HE2⟩
        case measure => simp only []; omega
    · obtain rfl : k = n := by omega
      have HX : Hid (ReadsFar w wr p tb N O T X ref k (.returned (.tuple #[.slice vo k vc, .int .i64 rf', .int .i64 0]))) := by
        have hm := hv.2.2.2.1
        unfold maxLen at hm
        refine ⟨O1, hR.mono (by omega), hF, hG, .inr ⟨out, rf', vo, vc, ?_, rfl, hv.bs, hv.2.2.1, by omega, hv.nil, fun a ha => ?_⟩⟩
        · rw [HE.out, Nat.sub_self, rdF_zero]; simp
        · have hb : (Value.slice vo k vc).ownBlock = some a.block := by rw [ha]; rfl
          exact ⟨(hv.own hb).1, hno _ hb⟩
      clear hv hR hF hG hno
      go_wp2
      go_ret3
      exact HX.out
end Go.Proofs.Ytgkclldiphcogaa

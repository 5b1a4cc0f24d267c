/- The walks of the reader's Read and Next. -/
import Derived.Test.YtmhgjilpgbkaaaaMetPart
namespace Go.Proofs.Ytmhgjilpgbkaaaa
set_option linter.unusedVariables false
open Go.RowKit Go.Maps
open Lz (g)
open Crc (ent)
open Frm Mtr

theorem RdM.olt {w : World} {p tb N : Nat} {O : Nat → Prop} {T : Nat → Nat} {X : List Int} (h : RdM w p O tb T X N) : ∀ k, O k → k < w.heap.size := by
  obtain ⟨_, _, _, _, _, _, h⟩ := h; exact h.lt
theorem RdM.c1 {w : World} {p tb N : Nat} {O : Nat → Prop} {T : Nat → Nat} {X : List Int} (h : RdM w p O tb T X N) : w.cell? ⟨p, 1, none⟩ = some (.bool true) := by
  obtain ⟨_, _, _, _, _, _, h⟩ := h; exact h.rb.2.2.1
theorem RdM.len {w : World} {p tb N : Nat} {O : Nat → Prop} {T : Nat → Nat} {X : List Int} (h : RdM w p O tb T X N) : ∃ fo fn fc, w.cell? ⟨p, 2, none⟩ = some (.slice fo fn fc) ∧ Bs w fo fn X ∧ fn ≤ fc ∧ fc ≤ 9223372036854775807 ∧ (fo = none → fc = 0) := by
  obtain ⟨fo, fn, fc, _, _, _, h⟩ := h; exact ⟨fo, fn, fc, h.rb.2.2.2.1, h.bs, h.cap, h.max, h.nil⟩
/-- What Read answers. -/
def Reads (w w' : World) (p tb N : Nat) (O : Nat → Prop) (T : Nat → Nat) (X : List Int) (ref : Int) (n : Nat) (r : Ending) : Prop :=
  ∃ O', RdM w' p O' tb T X (N + n) ∧ Fr O w w' ∧ Gr O O' w ∧
    ((rd T X ref n = none ∧ r = .returned (.tuple #[.slice none 0 0, .int .i64 0, .int .i64 2])) ∨
     ∃ z nx ao c, rd T X ref n = some (z, nx) ∧ r = .returned (.tuple #[.slice ao n c, .int .i64 nx, .int .i64 0]) ∧ Bs w' ao n z ∧ n ≤ c ∧ c ≤ 9223372036854775807 ∧ (ao = none → c = 0) ∧ ∀ a, ao = some a → w.heap.size ≤ a.block ∧ ¬ O' a.block)
/-- Behind one part more. -/
theorem read_step {w wr w1 w2 : World} {p tb N N' k m c : Nat} {O O1 O2 : Nat → Prop} {T : Nat → Nat} {X out z : List Int} {vo ao' : Option Addr} {vc : Nat}
    (hA : Rw w2 w.heap.size ao' (k + m) c (out ++ z)) (hv : Rw wr w.heap.size vo k vc out) (hn : ∀ j, (Value.slice vo k vc).ownBlock = some j → ¬ O1 j) (hF : Fr O w wr) (hG : Gr O O1 w) (h1 : RdM w1 p O2 tb T X N) (hF1 : Fr O1 wr w1) (hG1 : Gr O1 O2 wr)
    (hg : w1.grownBy w2 (Value.slice vo k vc).ownBlock) (hl : Lie w1 (.slice vo k vc) (.slice ao' (k + m) c)) (hN : N ≤ N') :
    RdM w2 p O2 tb T X N' ∧ Fr O w w2 ∧ Gr O O2 w ∧ ∀ j, (Value.slice ao' (k + m) c).ownBlock = some j → ¬ O2 j := by
  have hn2 : ∀ j, (Value.slice vo k vc).ownBlock = some j → ¬ O2 j := fun j hj hx => by
    rcases hG1 j hx with h | h
    · exact hn j hj h
    · have := (hv.own hj).2.1; omega
  have f2 : Fr (fun j => (Value.slice vo k vc).ownBlock = some j) w1 w2 := Fr.of_grown hg (fun j hj => hj)
  refine ⟨(h1.fr f2 (fun j hj hx => hn2 j hx hj)).mono hN, ?_, hG.trans hG1 hF.size, fun j hj hx => ?_⟩
  · exact (hF.gr hG hF1).trans f2 (fun i hi hx => by have := (hv.own hx).1; omega)
  · rcases hl j hj with h | h
    · exact hn2 j h hx
    · have := h1.olt j hx; omega
theorem rd_none {T : Nat → Nat} {X out : List Int} {A : Option (List Int × Int)} {f : Nat} {ref : Int} {n : Nat} (h : A = (rdF T X f ref n).map fun q => (out ++ q.1, q.2)) (hf : n ≤ f) (hn : n ≠ 0) (hp : pt T X ref n = none) : A = none := by
  obtain ⟨f, rfl⟩ : ∃ f', f = f' + 1 := ⟨f - 1, by omega⟩
  rw [h, rdF_none hn hp]; rfl
theorem rd_some {T : Nat → Nat} {X out z : List Int} {A : Option (List Int × Int)} {f : Nat} {ref nx : Int} {n m : Nat} (h : A = (rdF T X f ref n).map fun q => (out ++ q.1, q.2)) (hf : n ≤ f) (hn : n ≠ 0) (hp : pt T X ref n = some (z, nx)) (hm : z.length = m) :
    A = (rdF T X (f - 1) nx (n - m)).map fun q => ((out ++ z) ++ q.1, q.2) := by
  obtain ⟨f, rfl⟩ : ∃ f', f = f' + 1 := ⟨f - 1, by omega⟩
  rw [h, rdF_some hn hp, hm, Option.map_map]
  simp only [Nat.add_sub_cancel]
  congr 1
  funext q
  simp [List.append_assoc]

set_option maxRecDepth 100000 in
set_option maxHeartbeats 1000000 in
theorem mRead_any (p tb N : Nat) (O : Nat → Prop) (T : Nat → Nat) (X : List Int) (ref : Int) (n : Nat) (w : World) (h : RdM w p O tb T X N) (hT : Tb w tb T) (htb : tb < w.heap.size) (hOt : ¬ O tb) (hS : Small T) (hby : Bytes X)
    (hq : 0 ≤ ref ∧ ref ≤ 9223372036854775807) (hX : X.length ≤ 1000000) (hN : N + n ≤ 1000000000) (hn : n ≤ 1000000) :
    Calls Try.prog 38 #[.pointer (some ⟨p, 0, none⟩), .int .i64 ref, .int .i64 n] w fun r w' => Reads w w' p tb N O T X ref n r := by
  have c1 := h.c1
  have g1 : decide (ref < 0) = false := by simp; omega
  have g2 : ((n : Int) < 0) = False := by simp
  have HH := hide h
  have HT := hide hT
  have HOt := hide hOt
  have HS := hide hS
  have HY := hide hby
  clear h hT hOt hS hby
  go_enter Try.func38, Try.ntmps38
  go_wp2_with fail
  go_loopw [1, 9] (fun s1 s9 wr => ∃ (vo : Option Addr) (k vc f : Nat) (rf' : Int) (out : List Int) (O1 : Nat → Prop), s9 = .slice vo k vc ∧ s1 = .int .i64 rf' ∧ (0 ≤ rf' ∧ rf' ≤ 9223372036854775807) ∧ k ≤ n ∧ Rw wr w.heap.size vo k vc out ∧ RdM wr p O1 tb T X (N + k) ∧ Fr O w wr ∧ Gr O O1 w ∧
    (∀ j, (Value.slice vo k vc).ownBlock = some j → ¬ O1 j) ∧ n - k ≤ f ∧ Hid (rd T X ref n = (rdF T X f rf' (n - k)).map fun q => (out ++ q.1, q.2))) (fun _ s9 _ => n - (match s9 with | .slice _ k _ => k | _ => 0))
  case atStart => exact ⟨none, 0, 0, n, ref, [], O, rfl, rfl, hq, Nat.zero_le _, Rw.none _ _, HH.out, Fr.refl _ _, Gr.refl _ _, fun j hj => by simp [Value.ownBlock] at hj, by omega, by
    show rd T X ref n = _
    unfold rd
    simp⟩
  case round =>
    obtain ⟨vo, k, vc, f, rf', out, O1, rfl, rfl, hr', hkn, hv, hR, hF, hG, hno, hf, HE⟩ := hrel
    by_cases hlt : k < n
    · have i1 : (k : Int) < (n : Int) := by omega
      have e1 : (n : Int) - (k : Int) = ((n - k : Nat) : Int) := by omega
      have HK := hide (part_any p tb (N + k) O1 T X rf' (n - k) wr hR (HT.out.fr hF htb HOt.out) (Nat.lt_of_lt_of_le htb hF.size) (fun hx => by
        rcases hG tb hx with h | h
        · exact HOt.out h
        · omega) HS.out HY.out hr' hX (by omega) (by omega))
      rw [← e1] at HK
      have HV := hide hv
      have HFr := hide hF
      have HGr := hide hG
      have HNo := hide hno
      clear hv hR hF hG hno e1
      go_wp2_with fail
      refine HK.out.mono ?_
      rintro r w1 ⟨O2, hR1, hF1, hG1, ⟨hp, rfl⟩ | ⟨z, nx, m, ao, c, hp, hm, rfl, hB, hnil, hown⟩⟩
      · have HX : Hid (Reads w w1 p tb N O T X ref n (.returned (.tuple #[.slice none 0 0, .int .i64 0, .int .i64 2]))) :=
          ⟨O2, hR1.mono (by omega), HFr.out.gr HGr.out hF1, HGr.out.trans hG1 HFr.out.size, .inl ⟨rd_none HE.out hf (by omega) hp, rfl⟩⟩
        clear hR1 hF1 hG1 HK hp
        go_wp2
        go_ret3
        exact HX.out
      · obtain ⟨b1, b2, b3, b4, b5, b6⟩ := pt_bd HY.out hr'.1 (by omega) hp
        rw [hm] at b1 b2 b3
        have HE2 : Hid (rd T X ref n = (rdF T X (f - 1) nx (n - (k + m))).map fun q => ((out ++ z) ++ q.1, q.2)) := by
          have := rd_some HE.out hf (by omega) hp hm
          rw [show n - k - m = n - (k + m) by omega] at this
          exact this
        have hnx : nx ≤ 9223372036854775807 := by omega
        have HR1 := hide hR1
        have HF1 := hide hF1
        have HG1 := hide hG1
        have HB := hide hB
        have HNil := hide hnil
        have hVl : Rw w1 w.heap.size vo k vc out := HV.out.fr hF1 HNo.out
        have HV1 := hide hVl
        have hB1 : w.heap.size ≤ w1.heap.size := Nat.le_trans HFr.out.size hF1.size
        clear hR1 hF1 hG1 hB hnil hp hVl HK hown hm b3 b4 b6
        go_wp2_with (first
          | (at_builtin; refine wpList_append_rw _ rfl (.tmp 41) (.tmp 42) rfl w.heap.size vo k vc out rfl HV1.out ao m c z rfl HB.out HNil.out (by omega) hB1 ?_
             intro ao' c' w2 hA hg hl
             have HX := hide (read_step (N' := N + (k + m)) hA HV.out HNo.out HFr.out HGr.out HR1.out HF1.out HG1.out hg hl (by omega))
             have HA := hide hA
             clear hA hg hl))
        go_roundw
        case rel =>
          obtain ⟨x1, x2, x3, x4⟩ := HX.out
          exact ⟨ao', k + m, c', f - 1, nx, out ++ z, O2, rfl, rfl, ⟨b5, hnx⟩, by omega, HA.out, x1, x2, x3, x4, by omega, HE2⟩
        case measure => simp only []; omega
    · obtain rfl : k = n := by omega
      have HX : Hid (Reads w wr p tb N O T X ref k (.returned (.tuple #[.slice vo k vc, .int .i64 rf', .int .i64 0]))) := by
        have hm := hv.2.2.2.1
        unfold maxLen at hm
        refine ⟨O1, hR, hF, hG, .inr ⟨out, rf', vo, vc, ?_, rfl, hv.bs, hv.2.2.1, by omega, hv.nil, fun a ha => ?_⟩⟩
        · rw [HE.out, Nat.sub_self, rdF_zero]; simp
        · have hb : (Value.slice vo k vc).ownBlock = some a.block := by rw [ha]; rfl
          exact ⟨(hv.own hb).1, hno _ hb⟩
      clear hv hR hF hG hno
      go_wp2
      go_ret3
      exact HX.out

theorem mReadNeg_any (p : Nat) (ref n : Int) (w : World) (hq : -9223372036854775808 ≤ ref ∧ ref ≤ 9223372036854775807) (hn : -9223372036854775808 ≤ n ∧ n ≤ 9223372036854775807) (h : ref < 0 ∨ n < 0) :
    Calls Try.prog 38 #[.pointer (some ⟨p, 0, none⟩), .int .i64 ref, .int .i64 n] w fun r w' => r = .returned (.tuple #[.slice none 0 0, .int .i64 0, .int .i64 1]) ∧ w' = w := by
  by_cases h1 : ref < 0
  · go_enter Try.func38, Try.ntmps38
    go_wp2
    go_ret3
    exact ⟨rfl, rfl⟩
  · have h2 : n < 0 := by omega
    have g1 : decide (ref < 0) = false := by simp; omega
    go_enter Try.func38, Try.ntmps38
    go_wp2
    go_ret3
    exact ⟨rfl, rfl⟩
theorem mReadNot_any (p : Nat) (ref n : Int) (w : World) (hx : w.cell? ⟨p, 1, none⟩ = some (.bool false)) (hq : 0 ≤ ref ∧ ref ≤ 9223372036854775807) (hn : 0 ≤ n ∧ n ≤ 9223372036854775807) :
    Calls Try.prog 38 #[.pointer (some ⟨p, 0, none⟩), .int .i64 ref, .int .i64 n] w fun r w' => r = .returned (.tuple #[.slice none 0 0, .int .i64 0, .int .i64 2]) ∧ w' = w := by
  have g1 : decide (ref < 0) = false := by simp; omega
  have g2 : decide (n < 0) = false := by simp; omega
  go_enter Try.func38, Try.ntmps38
  go_wp2
  go_ret3
  exact ⟨rfl, rfl⟩
/-- What Next answers. -/
def nxt (X : List Int) (ref : Int) : Int × Int := if (skip X (ref / 256)).2 = 0 then (256 * (skip X (ref / 256)).1, 0) else (0, 2)
end Go.Proofs.Ytmhgjilpgbkaaaa

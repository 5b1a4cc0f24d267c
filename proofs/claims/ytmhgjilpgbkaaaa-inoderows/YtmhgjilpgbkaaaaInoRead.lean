/- Layer 9: Read, by the program. -/
import Derived.Test.YtmhgjilpgbkaaaaInoTake
import Derived.Test.YtmhgjilpgbkaaaaMetRead
namespace Go.Proofs.Ytmhgjilpgbkaaaa
set_option linter.unusedVariables false
open Go.RowKit Go.Maps
open Lz (g)
open Crc (ent)
open Cur
open Ino
open Mtr (rd)

namespace Ino
/-- What is read of a row, or nothing. -/
def rdA (X : List Int) (ref : Int) (n : Nat) : Option (List Int × Int) := if ref < 0 then none else rd ent X ref n
/-- What Read answers. -/
def readA (X : List Int) (ref : Int) : Rec × Int × Int :=
  match rdA X ref 14 with
  | none => (zr, 0, 2)
  | some (h, _) => if isKind (g h 0) = true then (match rdA X ref (long h) with
    | none => (zr, 0, 2)
    | some (b, nx) => if good b = true then (readR b, nx, 0) else (zr, 0, 2)) else (zr, 0, 2)
theorem readA_none {X : List Int} {ref : Int} (h : rdA X ref 14 = none) : readA X ref = (zr, 0, 2) := by unfold readA; rw [h]
theorem readA_kind {X h : List Int} {ref nx : Int} (h1 : rdA X ref 14 = some (h, nx)) (h2 : isKind (g h 0) = false) : readA X ref = (zr, 0, 2) := by unfold readA; rw [h1]; simp [h2]
theorem readA_not {X h : List Int} {ref nx : Int} (h1 : rdA X ref 14 = some (h, nx)) (h2 : isKind (g h 0) = true) (h3 : rdA X ref (long h) = none) : readA X ref = (zr, 0, 2) := by unfold readA; rw [h1]; simp [h2, h3]
theorem readA_some {X h b : List Int} {ref nx n2 : Int} (h1 : rdA X ref 14 = some (h, nx)) (h2 : isKind (g h 0) = true) (h3 : rdA X ref (long h) = some (b, n2)) : readA X ref = if good b = true then (readR b, n2, 0) else (zr, 0, 2) := by unfold readA; rw [h1]; simp [h2, h3]
theorem long_le {h : List Int} (hb : ∀ i, 0 ≤ g h i ∧ g h i ≤ 255) : long h ≤ 269 := by
  unfold long
  have := hb 13
  split
  · omega
  · split
    · omega
    · split <;> omega
/-- What a read of a row answers, as the program's reader and the document's tell it; P: where the bytes lie. -/
def RdAns (X : List Int) (ref : Int) (n : Nat) (P : Nat → Prop) (w' : World) (r : Ending) : Prop :=
  (rdA X ref n = none ∧ ∃ e, e ≠ 0 ∧ r = .returned (.tuple #[.slice none 0 0, .int .i64 0, .int .i64 e])) ∨
  ∃ z nx ao c, rdA X ref n = some (z, nx) ∧ r = .returned (.tuple #[.slice ao n c, .int .i64 nx, .int .i64 0]) ∧ Bs w' ao n z ∧ n ≤ c ∧ c ≤ 9223372036854775807 ∧ (ao = none → c = 0) ∧ ∀ a, ao = some a → P a.block
theorem results_cr3 {fn : Func} {p u v : Tmp} {ty : TypeId} (h : fn.results = #[.cell p ty, .tmp u, .tmp v]) (tmps : Array Value) (w : World) (g : Nat) (cs : Array Value)
    (hp : tmps.getD p undef = .pointer (some ⟨g, 0, none⟩)) (hr : (loadVar ty ⟨g, 0, none⟩).run Try.prog w = .ok (.agg cs) w) :
    (results fn tmps).run Try.prog w = .ok (.tuple #[.agg cs, tmps.getD u undef, tmps.getD v undef]) w := by
  have hp' : tmps[p]?.getD undef = .pointer (some ⟨g, 0, none⟩) := by simpa using hp
  simp [results, h, hp', asAddr, hr]
end Ino
theorem mRead_at (p tb N : Nat) (O : Nat → Prop) (X : List Int) (ref : Int) (n : Nat) (m : Int) (hm : m = (n : Int)) (w : World) (h : RdM w p O tb ent X N) (hT : Tb w tb ent) (htb : tb < w.heap.size) (hOt : ¬ O tb) (hby : Bytes X)
    (hr : -9223372036854775808 ≤ ref ∧ ref ≤ 9223372036854775807) (hX : X.length ≤ 1000000) (hN : N ≤ 1000000) (hn : n ≤ 1000) :
    Calls Try.prog 38 #[.pointer (some ⟨p, 0, none⟩), .int .i64 ref, .int .i64 m] w fun r w' => ∃ O', RdM w' p O' tb ent X (N + 1000) ∧ Fr O w w' ∧ Gr O O' w ∧ RdAns X ref n (fun k => w.heap.size ≤ k ∧ ¬ O' k) w' r := by
  subst hm
  by_cases h1 : ref < 0
  · refine (mReadNeg_any p ref n w hr (by omega) (.inl h1)).mono ?_
    rintro r w' ⟨rfl, rfl⟩
    exact ⟨O, h.mono (by omega), Fr.refl _ _, Gr.refl _ _, .inl ⟨by unfold rdA; rw [if_pos h1], 1, by omega, rfl⟩⟩
  · refine (mRead_any p tb N O ent X ref n w h hT htb hOt small_ent hby (by omega) hX (by omega) (by omega)).mono ?_
    rintro r w' ⟨O', k1, k2, k3, ⟨k4, rfl⟩ | ⟨z, nx, ao, c, k4, rfl, k5, k6, k7, k8, k9⟩⟩
    · exact ⟨O', k1.mono (by omega), k2, k3, .inl ⟨by unfold rdA; rw [if_neg h1, k4], 2, by omega, rfl⟩⟩
    · exact ⟨O', k1.mono (by omega), k2, k3, .inr ⟨z, nx, ao, c, by unfold rdA; rw [if_neg h1, k4], rfl, k5, k6, k7, k8, k9⟩⟩
/-- What a kind's own function of a record's length answers. -/
def Sizes (k : Int) (fn : Nat) : Prop := ∀ (ao : Option Addr) (c : Nat) (zs : List Int) (w : World), g zs 0 = k → Bs w ao 14 zs →
  Calls Try.prog fn #[.slice ao 14 c] w fun e w' => e = .returned (.int .i64 (long zs)) ∧ w' = w
theorem sizeOfDir_any : Sizes 1 49 := by
  intro ao c zs w hk hb
  have e : long zs = 21 := by unfold long; rw [if_pos hk]
  rw [e]
  clear hb hk e
  go_enter Try.func49, Try.ntmps49
  go_wp2
  go_ret
  exact ⟨rfl, rfl⟩
theorem sizeOfFile_any : Sizes 2 53 := by
  intro ao c zs w hk hb
  have e : long zs = 22 := by unfold long; rw [if_neg (by omega), if_pos hk]
  rw [e]
  clear hb hk e
  go_enter Try.func53, Try.ntmps53
  go_wp2
  go_ret
  exact ⟨rfl, rfl⟩
theorem sizeOfLink_any : Sizes 3 57 := by
  intro ao c zs w hk hb
  obtain ⟨hz, hby, h0⟩ := hb
  rcases h0 with h0 | ⟨b, off, rfl, hlt, hs⟩
  · omega
  have h13 := hby 13
  obtain ⟨x, hx⟩ : ∃ x : Nat, g zs 13 = (x : Int) := ⟨(g zs 13).toNat, by omega⟩
  have c13 := hs 13 (by omega)
  rw [hx] at c13 h13
  have e : long zs = 14 + x := by unfold long; rw [if_neg (by omega), if_neg (by omega), if_pos hk, hx]; rfl
  rw [e]
  clear hs hby hk e hx hz
  go_enter Try.func57, Try.ntmps57
  go_wp2
  go_ret
  exact ⟨by simp, rfl⟩
theorem kindSize (k : Int) (h : isKind k = true) : (∀ (args : Array Value) (w : World), (callFunc (kf k).size args).run Try.prog w = .ok (.enter (kf k).size args) w) ∧ Sizes k (kf k).size := by
  rcases kinds h with rfl | rfl | rfl
  · exact ⟨enters 49 Try.func49 (by kernel_rfl) rfl, sizeOfDir_any⟩
  · exact ⟨enters 53 Try.func53 (by kernel_rfl) rfl, sizeOfFile_any⟩
  · exact ⟨enters 57 Try.func57 (by kernel_rfl) rfl, sizeOfLink_any⟩
namespace Ino
/-- The reader at p, the table at tb, a record at r0, since w. -/
structure RS (w : World) (p tb : Nat) (O : Nat → Prop) (X : List Int) (N r0 : Nat) (R : Rec) (O' : Nat → Prop) (wX : World) : Prop where
  rdm : RdM wX p O' tb ent X N
  fr : Fr O w wX
  gr : Gr O O' w
  rc : wX.heap[r0]? = some (.cells (iv R) 23 (0, 0))
  no : ¬ O' r0
  tbl : Tb wX tb ent
  nt : ¬ O' tb
  lt : tb < wX.heap.size
  up : w.heap.size ≤ r0
section
variable {w wX wY : World} {p tb N r0 : Nat} {O O' O2 : Nat → Prop} {X : List Int} {R : Rec}
theorem RS.below (h : RS w p tb O X N r0 R O' wX) (hb : Below wX.heap.size wX wY) : RS w p tb O X N r0 R O' wY :=
  ⟨h.rdm.below hb, h.fr.then (Fr.of_below hb), h.gr, (hb.block _ (heap_lt h.rc)).trans h.rc, h.no, h.tbl.below hb h.lt, h.nt, Nat.lt_of_lt_of_le h.lt hb.size, h.up⟩
theorem RS.read (h : RS w p tb O X N r0 R O' wX) (h1 : RdM wY p O2 tb ent X (N + 1000)) (h2 : Fr O' wX wY) (h3 : Gr O' O2 wX) : RS w p tb O X (N + 1000) r0 R O2 wY := by
  refine ⟨h1, h.fr.gr h.gr h2, h.gr.trans h3 h.fr.size, (h2.block _ (heap_lt h.rc) h.no).trans h.rc, fun hx => ?_, ?_, fun hx => ?_, Nat.lt_of_lt_of_le h.lt h2.size, h.up⟩
  · rcases h3 _ hx with hx | hx
    · exact h.no hx
    · have := heap_lt h.rc; omega
  · exact h.tbl.fr h2 h.lt h.nt
  · rcases h3 _ hx with hx | hx
    · exact h.nt hx
    · have := h.lt; omega
theorem RS.done (h : RS w p tb O X N r0 R O' wX) (cs : Array Value) : RdM (wX.setRow r0 cs) p O' tb ent X N ∧ Fr O w (wX.setRow r0 cs) ∧ Gr O O' w :=
  ⟨h.rdm.fr (setRow_fr (Fr.refl (One r0) wX) r0 cs (fun _ => rfl)) (fun k hk he => h.no (by have : k = r0 := he; rw [← this]; exact hk)), setRow_fr h.fr r0 cs (fun hx => by have := h.up; omega), h.gr⟩
end
end Ino
/-- What Read does. -/
def IReads (w : World) (p tb N : Nat) (O : Nat → Prop) (X : List Int) (A : Rec × Int × Int) (e : Ending) (w' : World) : Prop :=
  e = .returned (.tuple #[.agg (iv A.1), .int .i64 A.2.1, .int .i64 A.2.2]) ∧ ∃ O', RdM w' p O' tb ent X (N + 2000) ∧ Fr O w w' ∧ Gr O O' w
set_option maxRecDepth 100000 in
set_option maxHeartbeats 4000000 in
theorem iRead_any (p tb N : Nat) (O : Nat → Prop) (X : List Int) (ref : Int) (w : World) (h : RdM w p O tb ent X N) (hT : Tb w tb ent) (htb : tb < w.heap.size) (hOt : ¬ O tb) (hby : Bytes X)
    (hr : -9223372036854775808 ≤ ref ∧ ref ≤ 9223372036854775807) (hX : X.length ≤ 1000000) (hN : N ≤ 100000) :
    Calls Try.prog 18 #[.pointer (some ⟨p, 0, none⟩), .int .i64 ref] w fun e w' => IReads w p tb N O X (readA X ref) e w' := by
  obtain ⟨w0, hw0⟩ : ∃ w0, w0 = w.alloc (.cells (iv zr) 23) := ⟨_, rfl⟩
  have b0 : Below w.heap.size w w0 := by rw [hw0]; exact below_one _ _
  have h0 : w0.heap[w.heap.size]? = some (.cells (iv zr) 23 (0, 0)) := by rw [hw0]; exact heap_new rfl
  have hR0 : RS w p tb O X N w.heap.size zr O w0 := ⟨h.below b0, Fr.of_below b0, Gr.refl _ _, h0, fun hx => by have := h.olt _ hx; omega, hT.below b0 htb, hOt, Nat.lt_of_lt_of_le htb b0.size, Nat.le_refl _⟩
  have HR0 := hide hR0
  have HW0 := hide hw0
  have HBy := hide hby
  have HM := hide (mRead_at p tb N O X ref 14 14 rfl w0 hR0.rdm hR0.tbl hR0.lt hR0.nt hby hr hX (by omega) (by omega))
  have HL : Hid (∀ O2 wY, RS w p tb O X (N + 1000) w.heap.size zr O2 wY → ∀ (n : Nat) (m : Int), m = (n : Int) → n ≤ 1000 → Calls Try.prog 38 #[.pointer (some ⟨p, 0, none⟩), .int .i64 ref, .int .i64 m] wY fun r w' => ∃ O', RdM w' p O' tb ent X (N + 1000 + 1000) ∧ Fr O2 wY w' ∧ Gr O2 O' wY ∧ RdAns X ref n (fun k => wY.heap.size ≤ k ∧ ¬ O' k) w' r) :=
    fun O2 wY hS n m hm hn => mRead_at p tb (N + 1000) O2 X ref n m hm wY hS.rdm hS.tbl hS.lt hS.nt hby hr hX (by omega) hn
  have HBad : Hid (readA X ref = (zr, 0, 2) → ∀ O2 wY M, M ≤ N + 2000 → RS w p tb O X M w.heap.size zr O2 wY → IReads w p tb N O X (readA X ref) (.returned (.tuple #[.agg (iv zr), .int .i64 0, .int .i64 2])) (wY.setRow w.heap.size (iv zr))) := fun e O2 wY M hM hS => by
    obtain ⟨d1, d2, d3⟩ := hS.done (iv zr)
    exact ⟨by rw [e], O2, d1.mono hM, d2, d3⟩
  clear h hT htb hOt hby hX hR0 hw0 b0 h0
  unfold iv zr at HW0
  simp only at HW0
  go_enter Try.func18, Try.ntmps18
  go_wp2_with fail
  rw [← HW0.out]
  refine HM.out.mono ?_
  rintro r w1 ⟨O1, k1, k2, k3, hA⟩
  have hS1 := HR0.out.read k1 k2 k3
  have HS1 := hide hS1
  have h1 := hS1.rc
  clear k1 k2 k3 HM hS1
  rcases hA with ⟨hn, ee, hee, rfl⟩ | ⟨hd, nx, ao, c, hn, rfl, hB, hc1, hc2, hc3, hf⟩
  · have he1 : (ee != 0) = true := by simpa using hee
    have HX := hide (HBad.out (readA_none hn) O1 w1 _ (by omega) HS1.out)
    clear hn hee
    go_wp2_with (refine wpList_store_row rfl _ _ _ rfl w.heap.size (iv zr) rfl rfl 23 (iv zr) h1 infoRec rfl (iv_one _) ?_)
    refine bodyPost_ret (v := .tuple #[.agg (iv zr), .int .i64 0, .int .i64 2]) ?_ rfl HX.out
    exact results_cr3 (p := 4) (u := 5) (v := 6) rfl _ _ w.heap.size (iv zr) rfl (load_rec (setRow_heap _ _ _ _ _ _ h1) rfl)
  · obtain ⟨hz, hby2, h00⟩ := id hB
    rcases h00 with h00 | ⟨bb, off, hao, hlt, hs⟩
    · omega
    subst hao
    have hk0 := hby2 0
    have c0 := hs 0 (by omega)
    have hll := long_le hby2
    rw [Nat.add_zero] at c0
    obtain ⟨k, hk⟩ : ∃ k, k = g hd 0 := ⟨_, rfl⟩
    rw [← hk] at c0 hk0
    have HB := hide hB
    have HKk := hide hk
    have HN1 := hide hn
    clear hs hby2 hz hB hf hn hk
    cases hik : isKind k
    case false =>
      have HX := hide (fun wY hS => HBad.out (readA_kind HN1.out (by rw [← HKk.out]; exact hik)) O1 wY (N + 1000) (by omega) hS)
      have HK := hide (kindOf_no k w1 hik)
      clear hik
      go_wp2_with fail
      refine HK.out.mono ?_
      rintro r w2 ⟨rfl, b2⟩
      have hS2 := HS1.out.below b2
      have hS3 := hS2.below (below_one w2 (.cells nf 62))
      have h3 := hS3.rc
      have HS3 := hide hS3
      clear b2 hS2 hS3 HK h1 c0
      go_wp2_with (first
        | (refine wpList_store_row rfl _ _ _ rfl w2.heap.size nf rfl rfl 62 _ (heap_alloc_new w2 _) infoKind rfl nf_one ?_; rw [World.setRow_alloc_new])
        | refine wpList_store_row rfl _ _ _ rfl w.heap.size (iv zr) rfl rfl 23 (iv zr) h3 infoRec rfl (iv_one _) ?_)
      refine bodyPost_ret (v := .tuple #[.agg (iv zr), .int .i64 0, .int .i64 2]) ?_ rfl (HX.out _ HS3.out)
      exact results_cr3 (p := 4) (u := 5) (v := 6) rfl _ _ w.heap.size (iv zr) rfl (load_rec (setRow_heap _ _ _ _ _ _ h3) rfl)
    case true =>
      obtain ⟨hen, hsz⟩ := kindSize k hik
      have HSz := hide hsz
      have HIk : Hid (isKind (g hd 0) = true) := by rw [← HKk.out]; exact hik
      have HK := hide (kindOf_yes k w1 hik)
      generalize kf k = f at *
      clear hik hsz
      go_wp2_with fail
      refine HK.out.mono ?_
      rintro r w2 ⟨rfl, b2⟩
      obtain ⟨w3, hw3⟩ : ∃ w3, w3 = w2.alloc (.cells f.v 62) := ⟨_, rfl⟩
      have b3 : Below w1.heap.size w1 w3 := by rw [hw3]; exact b2.alloc b2.size _
      have hS3 := HS1.out.below b3
      have hf3 : w3.heap[w2.heap.size]? = some (.cells f.v 62 (0, 0)) := by rw [hw3]; exact heap_new rfl
      have cf : w3.cell? ⟨w2.heap.size, 3, none⟩ = some (.func (.func f.size) #[] #[]) := by rw [cell_of_row _ _ _ _ _ _ hf3]; rfl
      have HB3 := hide (HB.out.below b3)
      have HS3 := hide hS3
      have HW3 := hide hw3
      clear b2 b3 hw3 hf3 hS3 HK h1 c0
      go_wp2_with (refine wpList_store_row rfl _ _ _ rfl w2.heap.size f.v rfl rfl 62 _ (heap_alloc_new w2 _) infoKind rfl (kv_one _ _ _ _) ?_; rw [World.setRow_alloc_new, ← HW3.out])
      refine (HSz.out _ c hd w3 HKk.out.symm HB3.out).mono ?_
      rintro r w4 ⟨rfl, hw4⟩
      obtain rfl := hw4
      obtain ⟨m, hm⟩ : ∃ m, m = long hd := ⟨_, rfl⟩
      rw [← hm]
      rw [← hm] at hll
      have HMm := hide hm
      clear hm
      go_wp2_with fail
      refine (HL.out O1 w4 HS3.out m m rfl (by omega)).mono ?_
      rintro r w5 ⟨O2, k1, k2, k3, hA⟩
      have hS5 := HS3.out.read k1 k2 k3
      have HS5 := hide hS5
      have h5 := hS5.rc
      clear k1 k2 k3 hS5
      rcases hA with ⟨hn, ee, hee, rfl⟩ | ⟨bz, nx2, ao2, c2, hn, rfl, hB2, hd1, hd2, hd3, hf2⟩
      · have he1 : (ee != 0) = true := by simpa using hee
        have HX := hide (HBad.out (readA_not HN1.out HIk.out (by rw [← HMm.out]; exact hn)) O2 w5 _ (by omega) HS5.out)
        clear hn hee
        go_wp2_with (refine wpList_store_row rfl _ _ _ rfl w.heap.size (iv zr) rfl rfl 23 (iv zr) h5 infoRec rfl (iv_one _) ?_)
        refine bodyPost_ret (v := .tuple #[.agg (iv zr), .int .i64 0, .int .i64 2]) ?_ rfl HX.out
        exact results_cr3 (p := 4) (u := 5) (v := 6) rfl _ _ w.heap.size (iv zr) rfl (load_rec (setRow_heap _ _ _ _ _ _ h5) rfl)
      · have HA := hide (readA_some HN1.out HIk.out (by rw [← HMm.out]; exact hn))
        have HTk := hide (iTake_any m c2 ao2 bz w5 hB2 hd1 hd3 (by omega))
        clear hn hB2 hf2 hd3
        go_wp2_with fail
        refine HTk.out.mono ?_
        rintro r w6 ⟨rfl, b6⟩
        have hS6 := HS5.out.below b6
        have h6 := hS6.rc
        have HS6 := hide hS6
        clear b6 hS6 HTk h5
        obtain ⟨w7, hw7⟩ : ∃ w7, w7 = w6.setRow w.heap.size (iv (takR bz)) := ⟨_, rfl⟩
        have h7 : w7.heap[w.heap.size]? = some (.cells (iv (takR bz)) 23 (0, 0)) := by rw [hw7]; exact setRow_heap _ _ _ _ _ _ h6
        have HW7 := hide hw7
        have HD : Hid (∀ cs, RdM (w7.setRow w.heap.size cs) p O2 tb ent X (N + 2000) ∧ Fr O w (w7.setRow w.heap.size cs) ∧ Gr O O2 w) := fun cs => by
          obtain ⟨d1, d2, d3⟩ := HS6.out.done (iv (takR bz))
          rw [← hw7] at d1 d2
          refine ⟨(d1.fr (setRow_fr (Fr.refl (One w.heap.size) w7) _ cs (fun _ => rfl)) (fun k hk he => HS6.out.no (by have : k = w.heap.size := he; rw [← this]; exact hk))).mono (by omega), setRow_fr d2 _ cs (fun hx => by omega), d3⟩
        clear hw7
        cases hg : good bz
        case false =>
          rw [hg] at HA
          have e1 : takE bz = 2 := by unfold takE; rw [hg]; rfl
          rw [e1]
          have HX : Hid (IReads w p tb N O X (readA X ref) (.returned (.tuple #[.agg (iv zr), .int .i64 0, .int .i64 2])) (w7.setRow w.heap.size (iv zr))) := ⟨by rw [HA.out]; rfl, O2, HD.out _⟩
          clear hg e1
          go_wp2_with (first
            | (refine wpList_store_row rfl _ _ _ rfl w.heap.size (iv (takR bz)) rfl rfl 23 (iv zr) h6 infoRec rfl (iv_one _) ?_; rw [← HW7.out])
            | refine wpList_store_row rfl _ _ _ rfl w.heap.size (iv zr) rfl rfl 23 (iv (takR bz)) h7 infoRec rfl (iv_one _) ?_)
          refine bodyPost_ret (v := .tuple #[.agg (iv zr), .int .i64 0, .int .i64 2]) ?_ rfl HX.out
          exact results_cr3 (p := 4) (u := 5) (v := 6) rfl _ _ w.heap.size (iv zr) rfl (load_rec (setRow_heap _ _ _ _ _ _ h7) rfl)
        case true =>
          rw [hg] at HA
          have e1 : takE bz = 0 := by unfold takE; rw [if_pos hg]
          have e2 : takR bz = readR bz := by unfold takR; rw [if_pos hg]
          rw [e1]
          have HX : Hid (IReads w p tb N O X (readA X ref) (.returned (.tuple #[.agg (iv (takR bz)), .int .i64 nx2, .int .i64 0])) (w7.setRow w.heap.size (iv (takR bz)))) := ⟨by rw [HA.out, e2]; rfl, O2, HD.out _⟩
          clear hg e1 e2
          go_wp2_with (first
            | (refine wpList_store_row rfl _ _ _ rfl w.heap.size (iv (takR bz)) rfl rfl 23 (iv zr) h6 infoRec rfl (iv_one _) ?_; rw [← HW7.out])
            | refine wpList_load_rec (by rfl) _ rfl w.heap.size rfl 23 (iv (takR bz)) (0, 0) h7 rfl ?_
            | refine wpList_store_row rfl _ _ _ rfl w.heap.size (iv (takR bz)) rfl rfl 23 (iv (takR bz)) h7 infoRec rfl (iv_one _) ?_)
          refine bodyPost_ret (v := .tuple #[.agg (iv (takR bz)), .int .i64 nx2, .int .i64 0]) ?_ rfl HX.out
          exact results_cr3 (p := 4) (u := 5) (v := 6) rfl _ _ w.heap.size (iv (takR bz)) rfl (load_rec (setRow_heap _ _ _ _ _ _ h7) rfl)
end Go.Proofs.Ytmhgjilpgbkaaaa

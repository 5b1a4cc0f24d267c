/- Layer 12: the program's writer: its state in memory; New, lay, Done, Frame. -/
import Derived.Test.YtifmikdknifcoaaDatPure
import Derived.Test.YtifmikdknifcoaaMapK
import Derived.Deep.RegionHeld3
namespace Go.Proofs.Ytifmikdknifcoaa
set_option linter.unusedVariables false
open Go.RowKit Go.Maps
open Lz (g)
open Crc (ent more)
open Frm Mtr Dat

theorem Dat.mapUnder : Try.prog.underlying 59 = some (.map 9 3) := Try.underlying59
/-- Bytes as a key. -/
def Dat.kyl (r : List Int) : Lit := .string (strOfNums r).data.toList
theorem Dat.kyl_inj {r s : List Int} (hr : Bytes r) (hs : Bytes s) (h : Dat.kyl r = Dat.kyl s) : r = s := by
  unfold Dat.kyl at h
  injection h with h
  exact str_inj hr hs (ByteArray.ext (Array.toList_inj.1 h))
theorem Dat.keyRun (r : List Int) (h : r.length ≤ 1000000) : keyOf Try.prog 9 (.string (strOfNums r)) = some (Dat.kyl r) := keyStr _ (by rw [strOfNums_size]; unfold maxLen; omega)
/-- The writer's map has the files' frames that M has. -/
def MpD (w : World) (b : Nat) (M : Wm) : Prop := ∃ f, MpK 9 w b M.length f ∧ ∀ r, Bytes r → f (Dat.kyl r) = Dat.look M r
theorem MpD.same {w w' : World} {b : Nat} {M : Wm} (h : MpD w b M) (hb : w'.heap[b]? = w.heap[b]?) : MpD w' b M := by
  obtain ⟨f, h1, h2⟩ := h
  exact ⟨f, h1.same hb, h2⟩
theorem MpD.lt {w : World} {b : Nat} {M : Wm} (h : MpD w b M) : b < w.heap.size := by obtain ⟨f, h1, _⟩ := h; exact h1.lt
theorem MpD.new (w : World) : MpD (w.alloc (.map #[] 0)) w.heap.size [] := ⟨_, mpk_new _ w, fun r _ => rfl⟩
theorem MpD.look {w : World} {b : Nat} {M : Wm} (h : MpD w b M) {r : List Int} (hr : Bytes r) (hl : r.length ≤ 1000000) :
    (Instr.lookup 59 (.map (some b)) (.string (strOfNums r)) true).run Try.prog w = .ok (.tuple #[.int .i64 (((Dat.look M r).getD 0 : Nat) : Int), .bool (Dat.look M r).isSome]) w := by
  obtain ⟨f, h1, h2⟩ := h
  have := h1.look keyedStr Dat.mapUnder (Dat.keyRun r hl) trivial
  rw [h2 r hr] at this
  exact this
theorem MpD.store {w : World} {b : Nat} {M : Wm} (h : MpD w b M) {r : List Int} (hr : Bytes r) (hl : r.length ≤ 1000000) (hM : M.length ≤ 1000000) (hn : Dat.look M r = none) (a : Nat) :
    ∃ w', (Instr.mapUpdate 59 (.map (some b)) (.string (strOfNums r)) (.int .i64 (a : Int))).run Try.prog w = .ok () w' ∧ MpD w' b (M ++ [(r, a)]) ∧ w.grownBy w' (some b) := by
  obtain ⟨f, h1, h2⟩ := h
  obtain ⟨w', k1, k2, k3⟩ := h1.store keyedStr Dat.mapUnder (Dat.keyRun r hl) trivial hM a
  refine ⟨w', k1, ⟨upd f (Dat.kyl r) a, ?_, fun s hs => ?_⟩, k3⟩
  · rw [h2 r hr, hn] at k2
    rw [List.length_append]
    exact k2
  · by_cases e : s = r
    · subst e
      rw [upd_same _ _ _ (show WideAt.IsKeyLit (Dat.kyl s) from trivial), look_app_none hn]
    · rw [upd_other _ _ (fun hk => e (Dat.kyl_inj hs hr hk)), look_app_other e]
      exact h2 s hs
/-- The writer's block. -/
def Dw (w : World) (p tb first : Nat) (lo : Option Addr) (ln lc mb : Nat) : Prop := w.heap[p]? = some (.cells #[.pointer (some ⟨tb, 0, none⟩), .int .i64 first, .slice lo ln lc, .map (some mb)] 61 (0, 0))
section
variable {w w' : World} {p tb first ln lc mb : Nat} {lo : Option Addr}
theorem Dw.lt (h : Dw w p tb first lo ln lc mb) : p < w.heap.size := heap_lt h
theorem Dw.c0 (h : Dw w p tb first lo ln lc mb) : w.cell? ⟨p, 0, none⟩ = some (.pointer (some ⟨tb, 0, none⟩)) := by unfold Dw at h; simp [World.cell?, h]
theorem Dw.c1 (h : Dw w p tb first lo ln lc mb) : w.cell? ⟨p, 1, none⟩ = some (.int .i64 first) := by unfold Dw at h; simp [World.cell?, h]
theorem Dw.c2 (h : Dw w p tb first lo ln lc mb) : w.cell? ⟨p, 2, none⟩ = some (.slice lo ln lc) := by unfold Dw at h; simp [World.cell?, h]
theorem Dw.c3 (h : Dw w p tb first lo ln lc mb) : w.cell? ⟨p, 3, none⟩ = some (.map (some mb)) := by unfold Dw at h; simp [World.cell?, h]
theorem Dw.f (h : Dw w p tb first lo ln lc mb) (i : Nat) : w.frozen? ⟨p, i, none⟩ = false := by unfold Dw at h; simp [World.frozen?, h]
theorem Dw.set2 (h : Dw w p tb first lo ln lc mb) (lo' : Option Addr) (ln' lc' : Nat) : Dw (w.setCell ⟨p, 2, none⟩ (.slice lo' ln' lc')) p tb first lo' ln' lc' mb := by
  unfold Dw; rw [heap_setCell_self h]; rfl
theorem Dw.fr {S : Nat → Prop} (h : Dw w p tb first lo ln lc mb) (hf : Fr S w w') (hn : ¬ S p) : Dw w' p tb first lo ln lc mb := (hf.block p h.lt hn).trans h
theorem Dw.ne {t : TypeId} {cur : Array Value} {k : Nat} (h : Dw w p tb first lo ln lc mb) (hk : w.heap[k]? = some (.cells cur t (0, 0))) (ht : t ≠ 61) : k ≠ p := fun e => by
  subst e; unfold Dw at h; rw [h] at hk; simp at hk; exact ht hk.2.symm
end
/-- A map's block is none of cells. -/
theorem MpD.ne {w : World} {b k : Nat} {M : Wm} {cs : Array Value} {t : TypeId} {fz : Nat × Nat} (h : MpD w b M) (hk : w.heap[k]? = some (.cells cs t fz)) : k ≠ b := fun e => by
  subst e
  obtain ⟨f, ⟨D, ⟨es, clock, h1, _⟩, _⟩, _⟩ := h
  rw [h1] at hk
  cases hk
/-- The writer: what it has; O: the blocks that are its own. -/
def WrD (w : World) (p : Nat) (O : Nat → Prop) (tb first : Nat) (s : Ws) : Prop :=
  ∃ lo ln lc mb, Dw w p tb first lo ln lc mb ∧ O p ∧ Rw w 0 lo ln lc s.1 ∧ MpD w mb s.2 ∧ O mb ∧ (∀ k, (Value.slice lo ln lc).ownBlock = some k → O k) ∧ (∀ k, O k → k < w.heap.size)
theorem WrD.fr {S : Nat → Prop} {w w' : World} {p tb first : Nat} {O : Nat → Prop} {s : Ws} (h : WrD w p O tb first s) (hf : Fr S w w') (hn : ∀ k, O k → ¬ S k) : WrD w' p O tb first s := by
  obtain ⟨lo, ln, lc, mb, h1, h2, h3, h4, h5, h6, h7⟩ := h
  exact ⟨lo, ln, lc, mb, h1.fr hf (hn _ h2), h2, h3.fr hf (fun k hk => hn _ (h6 k hk)), h4.same (hf.block mb h4.lt (hn _ h5)), h5, h6, fun k hk => Nat.lt_of_lt_of_le (h7 k hk) hf.size⟩
theorem WrD.below {w w' : World} {p tb first : Nat} {O : Nat → Prop} {s : Ws} (h : WrD w p O tb first s) (hb : Below w.heap.size w w') : WrD w' p O tb first s := h.fr (Fr.of_below (S := fun _ => False) hb) (fun _ _ h => h)
theorem WrD.olt {w : World} {p tb first : Nat} {O : Nat → Prop} {s : Ws} (h : WrD w p O tb first s) : ∀ k, O k → k < w.heap.size := by
  obtain ⟨lo, ln, lc, mb, h1, h2, h3, h4, h5, h6, h7⟩ := h
  exact h7
theorem WrD.own {w : World} {p tb first : Nat} {O : Nat → Prop} {s : Ws} (h : WrD w p O tb first s) : O p := by
  obtain ⟨lo, ln, lc, mb, h1, h2, _⟩ := h
  exact h2
theorem WrD.bytes {w : World} {p tb first : Nat} {O : Nat → Prop} {s : Ws} (h : WrD w p O tb first s) : Bytes s.1 := by
  obtain ⟨lo, ln, lc, mb, h1, h2, h3, _⟩ := h
  exact h3.2.1

theorem Dat.make (w : World) : (Instr.makeMap 59 none).run Try.prog w = .ok (.map (some w.heap.size)) (w.alloc (.map #[] 0)) := by
  simp [Instr.makeMap, Result.andThen]
set_option maxRecDepth 100000 in
theorem dNew_any (tb first : Nat) (w : World) : Calls Try.prog 11 #[.pointer (some ⟨tb, 0, none⟩), .int .i64 first] w fun r w' => r = .returned (.pointer (some ⟨w.heap.size + 1, 0, none⟩)) ∧ WrD w' (w.heap.size + 1) (fun k => w.heap.size ≤ k ∧ k < w.heap.size + 2) tb first ([], []) ∧ Below w.heap.size w w' := by
  have mk := Dat.make
  go_enter Try.func11, Try.ntmps11
  go_wp2
  go_ret
  refine ⟨rfl, ⟨none, 0, 0, w.heap.size, heap_new (by simp), ⟨by omega, by omega⟩, Rw.none _ _, (MpD.new w).same (Below.heap_alloc _ _ _ (by simp)), ⟨by omega, by omega⟩, fun k hk => by simp [Value.ownBlock] at hk, fun k hk => by simp; omega⟩, (below_one _ _).alloc (by simp) _⟩
/-- What was laid down: a row more. -/
theorem WrD.lay {w w1 : World} {p tb first : Nat} {O : Nat → Prop} {s : Ws} {lo lo' : Option Addr} {ln lc mb m lc' : Nat} {r : List Int} (hd : Dw w p tb first lo ln lc mb) (h2 : O p) (h3 : Rw w 0 lo ln lc s.1) (h4 : MpD w mb s.2) (h5 : O mb) (h6 : ∀ k, (Value.slice lo ln lc).ownBlock = some k → O k) (h7 : ∀ k, O k → k < w.heap.size)
    (hA : Rw w1 0 lo' (ln + m) lc' (s.1 ++ r)) (hg : w.grownBy w1 (Value.slice lo ln lc).ownBlock) (hl : Lie w (.slice lo ln lc) (.slice lo' (ln + m) lc')) :
    Dw w1 p tb first lo ln lc mb ∧ ∃ O', WrD (w1.setCell ⟨p, 2, none⟩ (.slice lo' (ln + m) lc')) p O' tb first (s.1 ++ r, s.2) ∧ Fr O w (w1.setCell ⟨p, 2, none⟩ (.slice lo' (ln + m) lc')) ∧ Gr O O' w := by
  have f2 : Fr (fun k => (Value.slice lo ln lc).ownBlock = some k) w w1 := Fr.of_grown hg (fun k hk => hk)
  have hd2 : Dw w1 p tb first lo ln lc mb := hd.fr f2 (fun hk => by
    obtain ⟨_, _, cur, hc⟩ := h3.own hk
    exact hd.ne hc (by decide) rfl)
  have hm2 : MpD w1 mb s.2 := h4.same (f2.block mb h4.lt (fun hk => by
    obtain ⟨_, _, cur, hc⟩ := h3.own hk
    exact h4.ne hc rfl))
  have hd4 := hd2.set2 lo' (ln + m) lc'
  have fs : Fr (One p) w1 (w1.setCell ⟨p, 2, none⟩ (.slice lo' (ln + m) lc')) := (Fr.refl (One p) _).set (p := ⟨p, 2, none⟩) _ (fun _ => rfl)
  have hn3 : ∀ k, (Value.slice lo' (ln + m) lc').ownBlock = some k → ¬ One p k := fun k hk hx => by
    obtain ⟨_, _, cur, hc⟩ := hA.own hk
    exact hd2.ne hc (by decide) hx
  have hm4 : MpD (w1.setCell ⟨p, 2, none⟩ (.slice lo' (ln + m) lc')) mb s.2 := hm2.same (fs.block mb hm2.lt (fun hx => by
    have hx : mb = p := hx
    exact (hm2.ne (show w1.heap[p]? = _ from hd2)) hx.symm))
  have hs2 := hg.size
  refine ⟨hd2, fun k => O k ∨ (w.heap.size ≤ k ∧ k < w1.heap.size), ⟨lo', ln + m, lc', mb, hd4, .inl h2, hA.fr fs hn3, hm4, .inl h5, fun k hk => ?_, fun k hk => ?_⟩, ?_, fun k hk => hk.imp id (fun h => h.1)⟩
  · rcases hl k hk with h | h
    · exact .inl (h6 k h)
    · exact .inr ⟨h, (hA.own hk).2.1⟩
  · have hs4 := fs.size
    rcases hk with hk | hk
    · have := h7 k hk; omega
    · omega
  · have fO : Fr O w w1 := f2.mono (fun i _ hi => h6 i hi)
    exact fO.trans fs (fun i _ (hi : i = p) => by rw [hi]; exact h2)
set_option maxRecDepth 100000 in
set_option maxHeartbeats 1000000 in
theorem lay_any (p tb first n c : Nat) (O : Nat → Prop) (ao : Option Addr) (s : Ws) (r : List Int) (w : World) (h : WrD w p O tb first s) (hb : Bs w ao n r) (hnil : ao = none → c = 0) (hf : first ≤ 1000000) (hL : s.1.length ≤ 1000000) (hn : n ≤ 1000000) :
    Calls Try.prog 24 #[.pointer (some ⟨p, 0, none⟩), .slice ao n c] w fun e w' => e = .returned (.int .i64 ((first + s.1.length : Nat) : Int)) ∧ ∃ O', WrD w' p O' tb first (s.1 ++ r, s.2) ∧ Fr O w w' ∧ Gr O O' w := by
  obtain ⟨lo, ln, lc, mb, hd, h2, h3, h4, h5, h6, h7⟩ := h
  have c1 := hd.c1
  have c2 := hd.c2
  have hln := h3.1
  rw [hln] at hL ⊢
  have HD := hide hd
  have HX := hide (fun (w1 : World) lo' lc' hA hg hl => WrD.lay (w1 := w1) (lo' := lo') (lc' := lc') (m := n) (r := r) hd h2 h3 h4 h5 h6 h7 hA hg hl)
  have HR := hide h3
  have HB := hide hb
  have HN := hide hnil
  have e1 : IntKind.i64.wrap ((first : Int) + (ln : Int)) = (first : Int) + ln := by rw [IntKind.wrap_i64]; omega
  have e2 : ((first + ln : Nat) : Int) = (first : Int) + ln := by omega
  rw [e2]
  clear hd h2 h3 h4 h5 h6 h7 hb hnil hln e2
  go_enter Try.func24, Try.ntmps24
  go_wp2_with fail
  go_quiet (fail)
  have HRq : Hid (Rw (w.drewN nq) 0 lo ln lc s.1) := HR.out
  have HBq : Hid (Bs (w.drewN nq) ao n r) := HB.out
  have c2q : (w.drewN nq).cell? ⟨p, 2, none⟩ = some (.slice lo ln lc) := c2
  clear c1 c2
  go_wp2_with (first
    | (at_builtin; refine wpList_append_rw _ rfl (.tmp 20) (.tmp 21) rfl 0 lo ln lc s.1 rfl HRq.out ao n c r rfl HBq.out HN.out (by omega) (Nat.zero_le _) ?_
       intro ao1 k1 w1 hA hg hl
       have HX1 := hide (HX.out w1 ao1 k1 hA (grown_drewN hg) hl)
       have c21 := HX1.out.1.c2
       have f21 := HX1.out.1.f 2
       clear hA hg hl))
  go_ret
  exact ⟨rfl, HX1.out.2⟩
set_option maxRecDepth 100000 in
theorem dDone_any (p tb first : Nat) (O : Nat → Prop) (s : Ws) (w : World) (h : WrD w p O tb first s) (hL : s.1.length ≤ 1000000) :
    Calls Try.prog 16 #[.pointer (some ⟨p, 0, none⟩)] w fun e w' => ∃ ao c, e = .returned (.slice ao s.1.length c) ∧ New w w' ao s.1.length c s.1 := by
  obtain ⟨lo, ln, lc, mb, hd, h2, h3, h4, h5, h6, h7⟩ := h
  have c2 := hd.c2
  have hln := h3.1
  rw [hln] at hL ⊢
  have HC := hide (CloneNew_any ln lc lo s.1 w h3.bs h3.2.2.1 h3.nil (by omega))
  clear hd h2 h3 h4 h5 h6 h7 hln
  go_enter Try.func16, Try.ntmps16
  go_wp2_with fail
  refine HC.out.mono ?_
  rintro r w1 ⟨ao, c, rfl, hN⟩
  have HN := hide hN
  clear hN
  go_wp2
  go_ret
  exact ⟨_, _, rfl, HN.out⟩
set_option maxRecDepth 100000 in
theorem dFrame_any (p tb first n c : Nat) (O : Nat → Prop) (ao : Option Addr) (T : Nat → Nat) (s : Ws) (b : List Int) (w : World) (h : WrD w p O tb first s) (hT : Tb w tb T) (htb : tb < w.heap.size) (hS : Small T) (hb : Bs w ao n b) (hc : n ≤ c) (hnil : ao = none → c = 0) (hf : first ≤ 1000000) (hL : s.1.length ≤ 1000000) (hn : n ≤ 128) :
    Calls Try.prog 12 #[.pointer (some ⟨p, 0, none⟩), .slice ao n c] w fun e w' => e = .returned (.int .i64 ((first + s.1.length : Nat) : Int)) ∧ ∃ O', WrD w' p O' tb first (s.1 ++ put T b, s.2) ∧ Fr O w w' ∧ Gr O O' w := by
  have c0 : w.cell? ⟨p, 0, none⟩ = some (.pointer (some ⟨tb, 0, none⟩)) := by
    obtain ⟨lo, ln, lc, mb, hd, _⟩ := h
    exact hd.c0
  have HP := hide (Put_any tb n c T ao b w hT htb hS hb hc hnil (by omega))
  have hz := hb.1
  have HPL := hide (put_length (T := T) (b := b) (by omega))
  have HW := hide h
  clear hT hb hnil h
  obtain ⟨A, hA⟩ : ∃ A, A = ((first + s.1.length : Nat) : Int) := ⟨_, rfl⟩
  rw [← hA]
  have HAe := hide hA
  clear hA
  go_enter Try.func12, Try.ntmps12
  go_wp2_with fail
  refine HP.out.mono ?_
  rintro r w1 (⟨h1, _⟩ | ⟨_, ao1, c1, rfl, hN⟩)
  · omega
  have HL := hide (lay_any p tb first (put T b).length c1 O ao1 s (put T b) w1 (HW.out.below hN.bel) hN.bs hN.nil hf hL (by have := HPL.out; omega))
  have Hb1 := hide hN.bel
  clear hN HP
  generalize (put T b).length = pl at *
  go_wp2_with fail
  refine HL.out.mono ?_
  rintro r w2 ⟨rfl, O', k1, k2, k3⟩
  rw [← HAe.out]
  have HX : Hid (∃ O', WrD w2 p O' tb first (s.1 ++ put T b, s.2) ∧ Fr O w w2 ∧ Gr O O' w) := ⟨O', k1, (Fr.of_below Hb1.out).then k2, fun k hk => (k3 k hk).imp id (fun h => Nat.le_trans Hb1.out.size h)⟩
  clear k1 k2 k3 HL
  go_wp2
  go_ret
  exact ⟨rfl, HX.out⟩
end Go.Proofs.Ytifmikdknifcoaa

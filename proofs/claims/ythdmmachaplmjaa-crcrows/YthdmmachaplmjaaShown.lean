/- The document's examples hold: what stands at the head of each statement of layer 2. -/
import Derived.Test.YthdmmachaplmjaaMore
namespace Go.Proofs.Ythdmmachaplmjaa
set_option linter.unusedVariables false
open Go.RowKit Go.Maps
open Lz (g)
open Crc (stp steps ent bt run more)

theorem tb_row {w : World} {b t : Nat} {T : Nat → Nat} (h : w.heap[b]? = some (.cells (tab T) t (0, 0))) : Tb w b T := fun i hi => by
  rw [cell_of_row w b i (tab T) t (0, 0) h]
  exact tab_at T i hi
theorem Tb.below {w w' : World} {B b : Nat} {T : Nat → Nat} (h : Tb w b T) (hb : Below B w w') (hlt : b < B) : Tb w' b T := fun i hi => (hb.cell (by exact hlt)).trans (h i hi)

/-- The table is laid into a variable of the caller's own. -/
theorem wpList_store_table {ops : Array Oper} {rest : List Oper} {o : Oper} {a : Act} {w : World} {Q : Exit → Act → World → Prop} (hgd : o.guard = none) (x y : Operand) (ho : o.op = .store 25 x y)
    (T : Nat → Nat) (C : Array Value) (hC : C = tab T) (hx : a.eval x = .pointer (some ⟨w.heap.size, 0, none⟩)) (hy : a.eval y = .agg C) (old : Array Value) (hold : old.size = 256)
    (h : ∀ w', Hid (w'.heap[w.heap.size]? = some (.cells C 25 (0, 0))) → Tb w' w.heap.size T → w.heap.size < w'.heap.size → Below w.heap.size w w' → wpList Try.prog ops Q rest (a.put o.dst undef) w') : wpList Try.prog ops Q (o :: rest) a (w.alloc (.cells old 25)) := by
  subst hC
  refine wpList_store_row hgd 25 x y ho w.heap.size (tab T) hx hy 25 old (heap_alloc_new w _) (by rw [tab_size]; exact (zero_of_info infoTable).2) (by rw [hold, tab_size]) (tab_one T) ?_
  rw [World.setRow_alloc_new]
  exact h _ (heap_alloc_new w _) (tb_row (heap_alloc_new w _)) (by simp) ((Below.refl _ _).alloc (Nat.le_refl _) _)
theorem tb_new {w : World} {C : Array Value} {t : TypeId} {T : Nat → Nat} (hC : C = tab T) : Tb (w.alloc (.cells C t)) w.heap.size T := by
  subst hC
  exact tb_row (heap_alloc_new w _)

set_option maxRecDepth 100000 in
set_option maxHeartbeats 4000000 in
theorem shown_any (w : World) : Calls Try.prog 9 #[] w fun r w' => r = .returned (.bool true) ∧ Below w.heap.size w w' := by
  have kc := fun (w : World) (C : Array Value) (n c : Nat) => Lib.run_convert_bytes_const (P := Try.prog) w 29 5 C n c Try.underlying29 Try.underlying5
  obtain ⟨hz, hi'⟩ := zero_of_info infoTable
  have hb1 : Bytes [49, 50, 51, 52, 53, 54, 55, 56, 57] := fun x hx => by simp at hx; omega
  have hb2 : Bytes [49, 50, 51, 52] := fun x hx => by simp at hx; omega
  have hb3 : Bytes [53, 54, 55, 56, 57] := fun x hx => by simp at hx; omega
  go_enter Try.func9, Try.ntmps9
  go_wp2_with fail
  refine (New_any w).mono ?_
  rintro r w1 ⟨rfl, hbel⟩
  obtain ⟨C, hC⟩ : ∃ C, C = tab ent := ⟨_, rfl⟩
  rw [← hC]
  have HC : Hid (C = tab ent) := hC
  clear hC
  go_wp2_with (refine wpList_store_table rfl _ _ rfl ent C HC.out rfl rfl _ (by simp) ?_; intro w2 ht2 hT2 hlt2 hb2')
  have N1 := bs_new w2 (9, 10) _ hb1
  have HN1 : Hid (Bs (w2.alloc (Obj.cells #[.int .u8 49, .int .u8 50, .int .u8 51, .int .u8 52, .int .u8 53, .int .u8 54, .int .u8 55, .int .u8 56, .int .u8 57] 5 (9, 10))) (some ⟨w2.heap.size, 0, none⟩) 9 [49, 50, 51, 52, 53, 54, 55, 56, 57]) := N1
  clear N1 ht2
  have hbw : Below w2.heap.size w2 (w2.alloc (Obj.cells #[.int .u8 49, .int .u8 50, .int .u8 51, .int .u8 52, .int .u8 53, .int .u8 54, .int .u8 55, .int .u8 56, .int .u8 57] 5 (9, 10))) := (Below.refl _ _).alloc (Nat.le_refl _) _
  have hT3 := hT2.below hbw hlt2
  refine (Sum_any w1.heap.size 9 9 ent _ _ _ hT3 small_ent HN1.out (by omega)).mono ?_
  rintro r w3 ⟨rfl, hw3⟩
  rw [Crc.shown9]
  have HW3 : Hid (Below w2.heap.size w2 w3) := by rw [hw3]; exact hbw
  have hT4 : Tb w3 w1.heap.size ent := by rw [hw3]; exact hT3
  clear hw3 HN1 hbw hT2 hT3
  go_wp2_with fail
  refine (Sum_any w1.heap.size 0 0 ent none [] w3 hT4 small_ent ⟨rfl, fun i => by simp [g], .inl rfl⟩ (by omega)).mono ?_
  rintro r wx ⟨rfl, rfl⟩
  rw [Crc.shown0]
  obtain ⟨o4, ho4⟩ : ∃ o4, o4 = Obj.cells #[.int .u8 49, .int .u8 50, .int .u8 51, .int .u8 52] 5 (4, 5) := ⟨_, rfl⟩
  obtain ⟨o5, ho5⟩ : ∃ o5, o5 = Obj.cells #[.int .u8 53, .int .u8 54, .int .u8 55, .int .u8 56, .int .u8 57] 5 (5, 6) := ⟨_, rfl⟩
  obtain ⟨o6, ho6⟩ : ∃ o6, o6 = Obj.cells #[Value.slice (some ⟨wx.heap.size, 0, none⟩) 4 4, Value.slice (some ⟨wx.heap.size + 1, 0, none⟩) 5 5] 29 := ⟨_, rfl⟩
  have N4 : Bs (((wx.alloc o4).alloc o5).alloc o6) (some ⟨wx.heap.size, 0, none⟩) 4 [49, 50, 51, 52] := by
    have h : Bs (wx.alloc o4) (some ⟨wx.heap.size, 0, none⟩) 4 [49, 50, 51, 52] := by rw [ho4]; exact bs_new wx (4, 5) _ hb2
    exact (h.alloc _).alloc _
  have N5 : Bs (((wx.alloc o4).alloc o5).alloc o6) (some ⟨wx.heap.size + 1, 0, none⟩) 5 [53, 54, 55, 56, 57] := by
    have h : Bs ((wx.alloc o4).alloc o5) (some ⟨(wx.alloc o4).heap.size, 0, none⟩) 5 [53, 54, 55, 56, 57] := by rw [ho5]; exact bs_new (wx.alloc o4) (5, 6) _ hb3
    rw [World.size_alloc] at h
    exact h.alloc _
  have hcell : ∀ i, (((wx.alloc o4).alloc o5).alloc o6).cell? ⟨wx.heap.size + 1 + 1, i, none⟩ = (#[Value.slice (some ⟨wx.heap.size, 0, none⟩) 4 4, Value.slice (some ⟨wx.heap.size + 1, 0, none⟩) 5 5] : Array Value)[i]? := fun i => by
    have h := heap_alloc_new ((wx.alloc o4).alloc o5) o6
    rw [World.size_alloc, World.size_alloc] at h
    exact cell_of_row _ _ i _ 29 (0, 0) (by rw [h, ho6])
  have hbw : Below wx.heap.size wx (((wx.alloc o4).alloc o5).alloc o6) := (((Below.refl _ _).alloc (Nat.le_refl _) _).alloc (by simp) _).alloc (by simp; omega) _
  have HR : Hid (Rs (((wx.alloc o4).alloc o5).alloc o6) (some ⟨wx.heap.size + 1 + 1, 0, none⟩) 2 (fun i => if i = 0 then [49, 50, 51, 52] else [53, 54, 55, 56, 57])) := by
    refine .inr ⟨_, 0, rfl, fun i hi => ?_⟩
    rw [Nat.zero_add, hcell i]
    by_cases e : i = 0
    · subst e
      exact ⟨_, 4, 4, rfl, N4, by omega⟩
    · obtain rfl : i = 1 := by omega
      exact ⟨_, 5, 5, rfl, N5, by omega⟩
  have hlt3 : w1.heap.size < wx.heap.size := Nat.lt_of_lt_of_le hlt2 HW3.out.size
  have HT5 : Hid (Tb (((wx.alloc o4).alloc o5).alloc o6) w1.heap.size ent) := hT4.below hbw hlt3
  have HB : Hid (Below w.heap.size w (((wx.alloc o4).alloc o5).alloc o6)) := by
    have e1 := hbel.trans (hb2'.mono hbel.size)
    have e2 := e1.trans (HW3.out.mono e1.size)
    exact e2.trans (hbw.mono e2.size)
  have k2 := kc (wx.alloc o4) #[.int .u8 53, .int .u8 54, .int .u8 55, .int .u8 56, .int .u8 57] 5 5
  rw [ho4, World.size_alloc] at k2
  have HO : Hid (o4 = _ ∧ o5 = _ ∧ o6 = _) := ⟨ho4, ho5, ho6⟩
  clear N4 N5 hcell hbw hlt3 hT4 HW3 hb2' hlt2 hbel hb1 hb2 hb3 ho4 ho5 ho6
  go_wp2_with fail
  rw [← HO.out.1, ← HO.out.2.1, ← HO.out.2.2]
  refine (Row_any w1.heap.size 2 2 ent _ _ _ HT5.out small_ent HR.out (by omega)).mono ?_
  rintro r w6 ⟨rfl, hw6⟩
  rw [show Crc.rows ent 0 ((List.range 2).map fun i => if i = 0 then [49, 50, 51, 52] else [53, 54, 55, 56, 57]) = 3421780262 from Crc.shownR]
  have HB6 : Hid (Below w.heap.size w w6) := by rw [hw6]; exact HB.out
  clear hw6 k2 HO HR HT5 HB
  go_wp2
  go_ret
  exact ⟨rfl, HB6.out⟩
end Go.Proofs.Ythdmmachaplmjaa

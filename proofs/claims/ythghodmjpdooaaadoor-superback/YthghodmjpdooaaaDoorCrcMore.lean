/- The walks of Table.More, Table.Sum and of the reference's Of and Sum: each tells the sum of the bytes, and writes nothing. -/
import Derived.Test.YthghodmjpdooaaaDoorCrcNew
namespace Go.Proofs.YthghodmjpdooaaaDoor
set_option linter.unusedVariables false
open Go.RowKit Go.Maps
open Lz (g)
open Crc (stp steps ent bt run more)

/-- The table lies at block b. -/
def Tb (w : World) (b : Nat) (T : Nat → Nat) : Prop := ∀ i, i < 256 → w.cell? ⟨b, i, none⟩ = some (.int .u32 (T i))
def Small (T : Nat → Nat) : Prop := ∀ i, i < 256 → T i < 4294967296
theorem small_ent : Small ent := Crc.ent_row

theorem not32 {r : Nat} (hr : r < 4294967296) : bits .xor .u32 IntKind.u32.max (r : Int) = ((r ^^^ 4294967295 : Nat) : Int) := by
  have := u32_xor_nat 4294967295 r (by omega) hr
  rw [Nat.xor_comm] at this
  exact this
theorem xorN {r : Nat} (hr : r < 4294967296) : bits .xor .u32 (r : Int) 4294967295 = ((r ^^^ 4294967295 : Nat) : Int) := u32_xor_nat r 4294967295 hr (by omega)
theorem run_at (T : Nat → Nat) (x k : Nat) (zs : List Int) (h : k < zs.length) : run T x (zs.drop k) = run T (bt T x (g zs k).toNat) (zs.drop (k + 1)) := by
  rw [List.drop_eq_getElem_cons h, Lz.g_lt _ _ h]
  rfl

/-- The look-up's place, as the program makes it of eight bits. -/
theorem look8 {x c : Nat} (hc : c ≤ 255) : bits .xor .u8 ((x : Int) % 256) (c : Int) = (((x ^^^ c) % 256 : Nat) : Int) := by
  have h := u8_xor_nat (x % 256) c (by omega) (by omega)
  rw [Crc.xor_mod, Nat.mod_eq_of_lt (show c < 256 by omega), ← h]
  congr 1
/-- As the reference makes it. -/
theorem look32 {x c : Nat} (hx : x < 4294967296) (hc : c ≤ 255) : bits .xor .u32 (x : Int) (c : Int) = ((x ^^^ c : Nat) : Int) := u32_xor_nat x c hx (by omega)
theorem next32 {T : Nat → Nat} {x c : Nat} (hS : Small T) (hx : x < 4294967296) : bits .xor .u32 ((x : Int) / 256) (T ((x ^^^ c) % 256) : Int) = ((bt T x c : Nat) : Int) := by
  have h := u32_xor_nat (x / 256) (T ((x ^^^ c) % 256)) (by omega) (hS _ (Nat.mod_lt _ (by omega)))
  exact h

set_option maxRecDepth 100000 in
set_option maxHeartbeats 400000 in
theorem More_any (b s len cap : Nat) (T : Nat → Nat) (ao : Option Addr) (zs : List Int) (w : World) (hT : Tb w b T) (hS : Small T) (hs : s < 4294967296) (hB : Bs w ao len zs) (hl : len ≤ 1000000) :
    Calls Tryd.prog 41 #[.pointer (some ⟨b, 0, none⟩), .int .u32 s, .slice ao len cap] w fun e w' => e = .returned (.int .u32 (more T s zs)) ∧ w' = w := by
  obtain ⟨hz, hby, h0⟩ := hB
  obtain ⟨R, hR⟩ : ∃ R, R = run T (s ^^^ 4294967295) zs := ⟨_, rfl⟩
  have e0 := not32 hs
  have hR32 : R < 4294967296 := by rw [hR]; exact Crc.run_lt hS _ (Crc.xor_lt hs (by omega))
  have e9 := not32 hR32
  have HF : Hid (more T s zs = R ^^^ 4294967295) := by show run T _ _ ^^^ _ = _; rw [← hR]
  have HR : Hid (R = run T (s ^^^ 4294967295) (zs.drop 0)) := hR
  have hs2 : s ^^^ 4294967295 < 4294967296 := Crc.xor_lt hs (by omega)
  rw [HF.out]
  clear hR
  generalize s ^^^ 4294967295 = s' at *
  go_enter Tryd.func41, Tryd.ntmps41
  go_wp2
  go_loopw [7, 14] (fun s7 s14 wr => ∃ k x : Nat, s7 = .int .u32 x ∧ s14 = .int .i64 k ∧ x < 4294967296 ∧ k ≤ len ∧ Hid (R = run T x (zs.drop k)) ∧ wr = w) (fun _ s14 _ => len - (intOf s14).toNat)
  case atStart => exact ⟨0, s', rfl, rfl, hs2, by omega, HR, rfl⟩
  case round =>
    obtain ⟨k, x, rfl, rfl, hx, hk, H, rfl⟩ := hrel
    by_cases hlt : k < len
    · rcases h0 with h0 | ⟨bb, off, rfl, hbl, hseg⟩
      · omega
      have hc := hseg k (by omega)
      have hcb := hby k
      generalize hq : g zs k = q at hc hcb
      obtain ⟨c, rfl⟩ : ∃ c : Nat, q = (c : Int) := ⟨q.toNat, by omega⟩
      have hst := run_at T x k zs (by omega)
      rw [hq] at hst
      have HS : Hid (R = run T (bt T x c) (zs.drop (k + 1))) := H.out.trans hst
      have hj : (x ^^^ c) % 256 < 256 := Nat.mod_lt _ (by omega)
      have e1 := look8 (x := x) (c := c) (by omega)
      have e2 := next32 (T := T) (x := x) (c := c) hS hx
      have ht := hT _ hj
      have hb32 := Crc.bt_lt hS hx c
      generalize (x ^^^ c) % 256 = j at *
      clear hst hq
      generalize bt T x c = y at *
      go_wp2
      go_roundw
      case rel => exact ⟨k + 1, y, rfl, by go_num, hb32, by omega, HS, trivial⟩
      case measure => simp [intOf]; omega
    · obtain rfl : k = len := by omega
      have hRx : R = x := by
        have := H.out
        rw [List.drop_eq_nil_of_le (by omega)] at this
        exact this
      subst hRx
      go_wp2
      go_ret
      exact ⟨rfl, rfl⟩

set_option maxHeartbeats 400000 in
theorem Sum_any (b len cap : Nat) (T : Nat → Nat) (ao : Option Addr) (zs : List Int) (w : World) (hT : Tb w b T) (hS : Small T) (hB : Bs w ao len zs) (hl : len ≤ 1000000) :
    Calls Tryd.prog 30 #[.pointer (some ⟨b, 0, none⟩), .slice ao len cap] w fun e w' => e = .returned (.int .u32 (more T 0 zs)) ∧ w' = w := by
  go_enter Tryd.func30, Tryd.ntmps30
  go_wp2_with fail
  refine (More_any b 0 len cap T ao zs w hT hS (by omega) hB hl).mono ?_
  rintro r wx ⟨rfl, rfl⟩
  clear hT hB
  go_wp2
  go_ret
  exact ⟨rfl, rfl⟩
set_option maxRecDepth 100000 in
set_option maxHeartbeats 400000 in
theorem refSum_any (len cap : Nat) (ao : Option Addr) (zs : List Int) (w : World) (hB : Bs w ao len zs) (hl : len ≤ 1000000) :
    Calls Tryd.prog 20 #[.slice ao len cap] w fun e w' => e = .returned (.int .u32 (more ent 0 zs)) ∧ w' = w := by
  obtain ⟨hz, hby, h0⟩ := hB
  obtain ⟨R, hR⟩ : ∃ R, R = run ent 4294967295 zs := ⟨_, rfl⟩
  have hR32 : R < 4294967296 := by rw [hR]; exact Crc.run_lt small_ent _ (by omega)
  have e9 := xorN hR32
  have HF : Hid (more ent 0 zs = R ^^^ 4294967295) := by show run ent _ _ ^^^ _ = _; rw [Nat.zero_xor, ← hR]
  have HR : Hid (R = run ent 4294967295 (zs.drop 0)) := hR
  rw [HF.out]
  clear hR
  generalize R ^^^ 4294967295 = RR at *
  go_enter Tryd.func20, Tryd.ntmps20
  go_wp2
  go_loopw [3, 4] (fun s3 s4 wr => ∃ k x : Nat, s3 = .int .u32 x ∧ s4 = .int .i64 k ∧ x < 4294967296 ∧ k ≤ len ∧ Hid (R = run ent x (zs.drop k)) ∧ wr = w) (fun _ s4 _ => len - (intOf s4).toNat)
  case atStart => exact ⟨0, 4294967295, rfl, rfl, by omega, by omega, HR, rfl⟩
  case round =>
    obtain ⟨k, x, rfl, rfl, hx, hk, H, rfl⟩ := hrel
    by_cases hlt : k < len
    · rcases h0 with h0 | ⟨bb, off, rfl, hbl, hseg⟩
      · omega
      have hc := hseg k (by omega)
      have hcb := hby k
      generalize hq : g zs k = q at hc hcb
      obtain ⟨c, rfl⟩ : ∃ c : Nat, q = (c : Int) := ⟨q.toNat, by omega⟩
      have hst := run_at ent x k zs (by omega)
      rw [hq] at hst
      have HS : Hid (R = run ent (bt ent x c) (zs.drop (k + 1))) := H.out.trans hst
      have hj : (x ^^^ c) % 256 < 256 := Nat.mod_lt _ (by omega)
      have e1 := look32 (x := x) (c := c) hx (by omega)
      have e2 := next32 (T := ent) (x := x) (c := c) small_ent hx
      have hb32 := Crc.bt_lt small_ent hx c
      clear hst hq
      have e3 : ((x ^^^ c : Nat) : Int) % 256 = (((x ^^^ c) % 256 : Nat) : Int) := by omega
      generalize x ^^^ c = xc at *
      generalize xc % 256 = j at *
      generalize bt ent x c = y at *
      go_wp2_with fail
      refine (refEntry_any j wr (by omega)).mono ?_
      rintro r wx ⟨rfl, rfl⟩
      go_wp2
      go_roundw
      case rel => exact ⟨k + 1, y, rfl, by go_num, hb32, by omega, HS, trivial⟩
      case measure => simp [intOf]; omega
    · obtain rfl : k = len := by omega
      have hRx : R = x := by
        have := H.out
        rw [List.drop_eq_nil_of_le (by omega)] at this
        exact this
      subst hRx
      go_wp2
      go_ret
      exact ⟨rfl, rfl⟩
theorem tb_row {w : World} {b t : Nat} {T : Nat → Nat} (h : w.heap[b]? = some (.cells (tab T) t (0, 0))) : Tb w b T := fun i hi => by
  rw [cell_of_row w b i (tab T) t (0, 0) h]
  exact tab_at T i hi
theorem Tb.below {w w' : World} {B b : Nat} {T : Nat → Nat} (h : Tb w b T) (hb : Below B w w') (hlt : b < B) : Tb w' b T := fun i hi => (hb.cell (by exact hlt)).trans (h i hi)

/-- The table is laid into a variable of the caller's own. -/
theorem wpList_store_table {ops : Array Oper} {rest : List Oper} {o : Oper} {a : Act} {w : World} {Q : Exit → Act → World → Prop} (hgd : o.guard = none) (x y : Operand) (ho : o.op = .store 27 x y)
    (T : Nat → Nat) (C : Array Value) (hC : C = tab T) (hx : a.eval x = .pointer (some ⟨w.heap.size, 0, none⟩)) (hy : a.eval y = .agg C) (old : Array Value) (hold : old.size = 256)
    (h : ∀ w', Hid (w'.heap[w.heap.size]? = some (.cells C 27 (0, 0))) → Tb w' w.heap.size T → w.heap.size < w'.heap.size → Below w.heap.size w w' → wpList Tryd.prog ops Q rest (a.put o.dst undef) w') : wpList Tryd.prog ops Q (o :: rest) a (w.alloc (.cells old 27)) := by
  subst hC
  refine wpList_store_row hgd 27 x y ho w.heap.size (tab T) hx hy 27 old (heap_alloc_new w _) (by rw [tab_size]; exact (zero_of_info infoTable).2) (by rw [hold, tab_size]) (tab_one T) ?_
  rw [World.setRow_alloc_new]
  exact h _ (heap_alloc_new w _) (tb_row (heap_alloc_new w _)) (by simp) ((Below.refl _ _).alloc (Nat.le_refl _) _)
theorem tb_new {w : World} {C : Array Value} {t : TypeId} {T : Nat → Nat} (hC : C = tab T) : Tb (w.alloc (.cells C t)) w.heap.size T := by
  subst hC
  exact tb_row (heap_alloc_new w _)
end Go.Proofs.YthghodmjpdooaaaDoor

/- Layer 9: the functions of a kind; whether a record may be, by the program. -/
import Derived.Test.YtmhgjilpgbkaaaaInoMay
import Derived.Deep.WholeRow
import Derived.Laws.Tables
import Derived.Laws.CopyOwn
namespace Go.Proofs.Ytmhgjilpgbkaaaa
set_option linter.unusedVariables false
open Go.RowKit Go.Maps
open Cur
open Ino

namespace Ino
/-- A kind's functions, by their numbers. -/
def kv (f0 f1 f2 f3 : Nat) : Array Value := #[.func (.func f0) #[] #[], .func (.func f1) #[] #[], .func (.func f2) #[] #[], .func (.func f3) #[] #[]]
theorem infoKind : (Try.prog.info? 62).map (·.size) = some 4 := by kernel_rfl
theorem load_kind {w : World} {b t : Nat} {cs : Array Value} {fr : Nat × Nat} (h : w.heap[b]? = some (.cells cs t fr)) (hs : cs.size = 4) : (loadVar 62 ⟨b, 0, none⟩).run Try.prog w = .ok (.agg cs) w :=
  run_loadVar_row w b t 62 cs fr _ h Try.underlying62 rfl (by rw [hs]; exact infoKind)
theorem results_cr2 {fn : Func} {p u : Tmp} {ty : TypeId} (h : fn.results = #[.cell p ty, .tmp u]) (tmps : Array Value) (w : World) (g : Nat) (cs : Array Value)
    (hp : tmps.getD p undef = .pointer (some ⟨g, 0, none⟩)) (hr : (loadVar ty ⟨g, 0, none⟩).run Try.prog w = .ok (.agg cs) w) :
    (results fn tmps).run Try.prog w = .ok (.tuple #[.agg cs, tmps.getD u undef]) w := by
  have hp' : tmps[p]?.getD undef = .pointer (some ⟨g, 0, none⟩) := by simpa using hp
  simp [results, h, hp', asAddr, hr]
theorem kv_size (a b c d : Nat) : (kv a b c d).size = 4 := rfl
theorem kv_one (a b c d : Nat) : (kv a b c d).all (·.oneCell') = true := by simp [kv, Value.oneCell']
/-- No functions. -/
def nf : Array Value := #[.nilFunc, .nilFunc, .nilFunc, .nilFunc]
theorem nf_one : nf.all (·.oneCell') = true := by simp [nf, Value.oneCell']
/-- Which functions a kind has. -/
structure Fns where
  may : Nat
  put : Nat
  take : Nat
  size : Nat
def kf (k : Int) : Fns := if k = 1 then ⟨46, 47, 48, 49⟩ else if k = 2 then ⟨50, 51, 52, 53⟩ else ⟨54, 55, 56, 57⟩
def Fns.v (f : Fns) : Array Value := kv f.may f.put f.take f.size
theorem kf_one : kf 1 = ⟨46, 47, 48, 49⟩ := rfl
theorem kf_two : kf 2 = ⟨50, 51, 52, 53⟩ := rfl
theorem kf_three : kf 3 = ⟨54, 55, 56, 57⟩ := rfl
end Ino
set_option maxRecDepth 100000 in
theorem kindOf_yes (k : Int) (w : World) (h : isKind k = true) : Calls Try.prog 24 #[.int .i64 k] w fun e w' => e = .returned (.tuple #[.agg (kf k).v, .bool true]) ∧ Below w.heap.size w w' := by
  rcases kinds h with rfl | rfl | rfl
  · rw [kf_one]
    go_enter Try.func24, Try.ntmps24
    go_wp2_with (refine wpList_store_row rfl _ _ _ rfl w.heap.size _ rfl rfl 62 _ (heap_alloc_new w _) infoKind rfl (kv_one _ _ _ _) ?_; rw [World.setRow_alloc_new])
    refine bodyPost_ret (v := .tuple #[.agg (kv _ _ _ _), .bool true]) ?_ rfl ⟨rfl, below_one _ _⟩
    exact results_cr2 (p := 2) (u := 3) rfl _ _ w.heap.size _ rfl (load_kind (heap_alloc_new w _) rfl)
  · rw [kf_two]
    go_enter Try.func24, Try.ntmps24
    go_wp2_with (refine wpList_store_row rfl _ _ _ rfl w.heap.size _ rfl rfl 62 _ (heap_alloc_new w _) infoKind rfl (kv_one _ _ _ _) ?_; rw [World.setRow_alloc_new])
    refine bodyPost_ret (v := .tuple #[.agg (kv _ _ _ _), .bool true]) ?_ rfl ⟨rfl, below_one _ _⟩
    exact results_cr2 (p := 2) (u := 3) rfl _ _ w.heap.size _ rfl (load_kind (heap_alloc_new w _) rfl)
  · rw [kf_three]
    go_enter Try.func24, Try.ntmps24
    go_wp2_with (refine wpList_store_row rfl _ _ _ rfl w.heap.size _ rfl rfl 62 _ (heap_alloc_new w _) infoKind rfl (kv_one _ _ _ _) ?_; rw [World.setRow_alloc_new])
    refine bodyPost_ret (v := .tuple #[.agg (kv _ _ _ _), .bool true]) ?_ rfl ⟨rfl, below_one _ _⟩
    exact results_cr2 (p := 2) (u := 3) rfl _ _ w.heap.size _ rfl (load_kind (heap_alloc_new w _) rfl)
set_option maxRecDepth 100000 in
theorem kindOf_no (k : Int) (w : World) (h : isKind k = false) : Calls Try.prog 24 #[.int .i64 k] w fun e w' => e = .returned (.tuple #[.agg nf, .bool false]) ∧ Below w.heap.size w w' := by
  unfold isKind at h
  simp only [decide_eq_false_iff_not, not_or] at h
  have h1 : (k == 1) = false := by simpa using h.1
  have h2 : (k == 2) = false := by simpa using h.2.1
  have h3 : (k == 3) = false := by simpa using h.2.2
  clear h
  go_enter Try.func24, Try.ntmps24
  go_wp2_with (refine wpList_store_row rfl _ _ _ rfl w.heap.size _ rfl rfl 62 _ (heap_alloc_new w _) infoKind rfl nf_one ?_; rw [World.setRow_alloc_new])
  refine bodyPost_ret (v := .tuple #[.agg nf, .bool false]) ?_ rfl ⟨rfl, below_one _ _⟩
  exact results_cr2 (p := 2) (u := 3) rfl _ _ w.heap.size _ rfl (load_kind (heap_alloc_new w _) rfl)
/-- What a kind's own function of what may be answers. -/
theorem kindMay (s : Rec) (h : isKind s.kind = true) : (∀ (args : Array Value) (w : World), (callFunc (kf s.kind).may args).run Try.prog w = .ok (.enter (kf s.kind).may args) w) ∧
    ∀ w, Calls Try.prog (kf s.kind).may #[.agg (iv s)] w fun e w' => e = .returned (.bool s.ownOk) ∧ Below w.heap.size w w' := by
  rcases kinds h with hk | hk | hk
  · rw [hk, kf_one]
    have e : s.ownOk = s.dirOk := by unfold Rec.ownOk; rw [if_pos hk]
    rw [e]
    exact ⟨enters 46 Try.func46 (by kernel_rfl) rfl, mayDir_any s⟩
  · rw [hk, kf_two]
    have e : s.ownOk = s.fileOk := by unfold Rec.ownOk; rw [if_neg (by omega), if_pos hk]
    rw [e]
    exact ⟨enters 50 Try.func50 (by kernel_rfl) rfl, mayFile_any s⟩
  · rw [hk, kf_three]
    have e : s.ownOk = s.linkOk := by unfold Rec.ownOk; rw [if_neg (by omega), if_neg (by omega), if_pos hk]
    rw [e]
    exact ⟨enters 54 Try.func54 (by kernel_rfl) rfl, mayLink_any s⟩
set_option maxRecDepth 100000 in
set_option maxHeartbeats 2000000 in
theorem May_any (s : Rec) (w : World) : Calls Try.prog 12 #[.agg (iv s)] w fun e w' => e = .returned (.bool s.may) ∧ Below w.heap.size w w' := by
  obtain ⟨w1, hw1⟩ : ∃ w1, w1 = w.alloc (.cells (iv s) 23) := ⟨_, rfl⟩
  have hb1 : w1.heap[w.heap.size]? = some (.cells (iv s) 23 (0, 0)) := by rw [hw1]; exact heap_new rfl
  have HC : Hid (∀ wX, Below w1.heap.size w1 wX → ∀ k, wX.cell? ⟨w.heap.size, k, none⟩ = (iv s)[k]?) := fun wX h k => by
    rw [cell_of_row _ _ _ _ _ _ ((h.block _ (heap_lt hb1)).trans hb1)]
  have HX : Hid (∀ wX, Below w1.heap.size w1 wX → wX.heap[w.heap.size]? = some (.cells (iv s) 23 (0, 0))) := fun wX h => (h.block _ (heap_lt hb1)).trans hb1
  have HB1 : Hid (Below w.heap.size w w1) := by rw [hw1]; exact below_one _ _
  have HW1 := hide hw1
  have hkm := kindMay s
  clear hw1 hb1
  unfold iv at HW1 ⊢
  cases hk : isKind s.kind
  case false =>
    have HM : Hid (s.may = false) := may_kind hk
    have HK := hide (kindOf_no s.kind w1 hk)
    clear hkm hk
    go_enter Try.func12, Try.ntmps12
    go_wp2_with fail
    rw [← HW1.out]
    refine HK.out.mono ?_
    rintro r w2 ⟨rfl, b2⟩
    have HB2 : Hid (Below w.heap.size w w2) := HB1.out.trans (b2.mono HB1.out.size)
    clear b2 HK
    go_wp2_with (refine wpList_store_row rfl _ _ _ rfl w2.heap.size nf rfl rfl 62 _ (heap_alloc_new w2 _) infoKind rfl nf_one ?_; rw [World.setRow_alloc_new])
    go_ret
    exact ⟨ret_bool HM.out.symm, HB2.out.alloc HB2.out.size _⟩
  case true =>
    obtain ⟨hen, hma⟩ := hkm hk
    have HK := hide (kindOf_yes s.kind w1 hk)
    have HMa := hide hma
    have HD : Hid (s.may = (inn s.mode 0 511 && inn s.uid 0 2047 && inn s.gid 0 2047 && inn s.links 1 1024 && inn s.xattr 0 4294967295 && s.ownOk)) := rfl
    generalize kf s.kind = f at *
    clear hkm hk hma
    go_enter Try.func12, Try.ntmps12
    go_wp2_with fail
    rw [← HW1.out]
    refine HK.out.mono ?_
    rintro r w2 ⟨rfl, b2⟩
    have HB2 : Hid (Below w.heap.size w w2) := HB1.out.trans (b2.mono HB1.out.size)
    obtain ⟨w3, hw3⟩ : ∃ w3, w3 = w2.alloc (.cells f.v 62) := ⟨_, rfl⟩
    have hb3 : Below w1.heap.size w1 w3 := by rw [hw3]; exact b2.alloc b2.size _
    have c1 : w3.cell? ⟨w.heap.size, 1, none⟩ = some (.int .i64 s.mode) := HC.out w3 hb3 1
    have c2 : w3.cell? ⟨w.heap.size, 2, none⟩ = some (.int .i64 s.uid) := HC.out w3 hb3 2
    have c3 : w3.cell? ⟨w.heap.size, 3, none⟩ = some (.int .i64 s.gid) := HC.out w3 hb3 3
    have c4 : w3.cell? ⟨w.heap.size, 4, none⟩ = some (.int .i64 s.links) := HC.out w3 hb3 4
    have c5 : w3.cell? ⟨w.heap.size, 5, none⟩ = some (.int .i64 s.xattr) := HC.out w3 hb3 5
    have hx3 := HX.out w3 hb3
    have hf3 : w3.heap[w2.heap.size]? = some (.cells f.v 62 (0, 0)) := by rw [hw3]; exact heap_new rfl
    have cf : w3.cell? ⟨w2.heap.size, 0, none⟩ = some (.func (.func f.may) #[] #[]) := by rw [cell_of_row _ _ _ _ _ _ hf3]; rfl
    have HB3 : Hid (Below w.heap.size w w3) := by rw [hw3]; exact HB2.out.alloc HB2.out.size _
    have HW3 := hide hw3
    clear b2 HK hw3 hb3 hf3
    go_wp2_with (first
      | (refine wpList_store_row rfl _ _ _ rfl w2.heap.size f.v rfl rfl 62 _ (heap_alloc_new w2 _) infoKind rfl (kv_one _ _ _ _) ?_; rw [World.setRow_alloc_new, ← HW3.out])
      | (go_at_call 30; refine (within_any _ _ _ _).mono ?_; rintro e w1 ⟨rfl, rfl⟩)
      | refine wpList_load_rec (by rfl) _ rfl w.heap.size rfl 23 (iv s) (0, 0) hx3 rfl ?_)
    rotate_left
    all_goals first
      | (go_ret; refine ⟨ret_bool ?_, HB3.out⟩; rw [HD.out]; simp [*]; done)
      | (refine (HMa.out _).mono ?_
         rintro r w5 ⟨rfl, b5⟩
         have HB5 : Hid (Below w.heap.size w w5) := HB3.out.trans (b5.mono HB3.out.size)
         clear b5
         go_wp2
         go_ret
         refine ⟨ret_bool ?_, HB5.out⟩
         rw [HD.out]
         simp [*])
end Go.Proofs.Ytmhgjilpgbkaaaa

import Derived.Test.YtoohanojfoichaaGreatDoorOInoMay
import Derived.Deep.WholeRow
import Derived.Laws.Tables
import Derived.Laws.CopyOwn
set_option linter.unusedVariables false
namespace Go.Proofs.YtoohanojfoichaaGreatDoor
open Go.RowKit Go.Maps
open Cur
open Ino
namespace Ino
def kv (f0 f1 f2 f3 : Nat) : Array Value := #[.func (.func f0) #[] #[], .func (.func f1) #[] #[], .func (.func f2) #[] #[], .func (.func f3) #[] #[]]
theorem infoKind : (Tryz.prog.info? 154).map (·.size) = some 4 := by kernel_rfl
theorem load_kind {w : World} {b t : Nat} {cs : Array Value} {fr : Nat × Nat} (h : w.heap[b]? = some (.cells cs t fr)) (hs : cs.size = 4) : (loadVar 154 ⟨b, 0, none⟩).run Tryz.prog w = .ok (.agg cs) w :=
 run_loadVar_row w b t 154 cs fr _ h Tryz.underlying154 rfl (by rw [hs]; exact infoKind)
theorem kv_one (a b c d : Nat) : (kv a b c d).all (·.oneCell') = true := by simp [kv, Value.oneCell']
def nf : Array Value := #[.nilFunc, .nilFunc, .nilFunc, .nilFunc]
theorem nf_one : nf.all (·.oneCell') = true := by simp [nf, Value.oneCell']
structure Fns where
 may : Nat
 put : Nat
 take : Nat
 size : Nat
def kf (k : Int) : Fns := if k = 1 then ⟨141, 142, 143, 144⟩ else if k = 2 then ⟨145, 146, 147, 148⟩ else ⟨149, 150, 151, 152⟩
def Fns.v (f : Fns) : Array Value := kv f.may f.put f.take f.size
theorem kf_one : kf 1 = ⟨141, 142, 143, 144⟩ := rfl
theorem kf_two : kf 2 = ⟨145, 146, 147, 148⟩ := rfl
theorem kf_three : kf 3 = ⟨149, 150, 151, 152⟩ := rfl
end Ino
set_option maxRecDepth 100000 in
theorem kindOf_yes (k : Int) (w : World) (h : isKind k = true) : Calls Tryz.prog 95 #[.int .i64 k] w fun e w' => e = .returned (.tuple #[.agg (kf k).v, .bool true]) ∧ Below w.heap.size w w' := by
 rcases kinds h with rfl | rfl | rfl
 ·rw [kf_one]
  go_enter Tryz.func95, Tryz.ntmps95
  go_wp2_with (refine wpList_store_row rfl _ _ _ rfl w.heap.size _ rfl rfl 154 _ (heap_alloc_new w _) infoKind rfl (kv_one _ _ _ _) ?_; rw [World.setRow_alloc_new])
  refine bodyPost_ret (v := .tuple #[.agg (kv _ _ _ _), .bool true]) ?_ rfl ⟨rfl, below_one _ _⟩
  exact results_cr2 (p := 2) (u := 3) rfl _ _ w.heap.size _ rfl (load_kind (heap_alloc_new w _) rfl)
 ·rw [kf_two]
  go_enter Tryz.func95, Tryz.ntmps95
  go_wp2_with (refine wpList_store_row rfl _ _ _ rfl w.heap.size _ rfl rfl 154 _ (heap_alloc_new w _) infoKind rfl (kv_one _ _ _ _) ?_; rw [World.setRow_alloc_new])
  refine bodyPost_ret (v := .tuple #[.agg (kv _ _ _ _), .bool true]) ?_ rfl ⟨rfl, below_one _ _⟩
  exact results_cr2 (p := 2) (u := 3) rfl _ _ w.heap.size _ rfl (load_kind (heap_alloc_new w _) rfl)
 ·rw [kf_three]
  go_enter Tryz.func95, Tryz.ntmps95
  go_wp2_with (refine wpList_store_row rfl _ _ _ rfl w.heap.size _ rfl rfl 154 _ (heap_alloc_new w _) infoKind rfl (kv_one _ _ _ _) ?_; rw [World.setRow_alloc_new])
  refine bodyPost_ret (v := .tuple #[.agg (kv _ _ _ _), .bool true]) ?_ rfl ⟨rfl, below_one _ _⟩
  exact results_cr2 (p := 2) (u := 3) rfl _ _ w.heap.size _ rfl (load_kind (heap_alloc_new w _) rfl)
set_option maxRecDepth 100000 in
theorem kindOf_no (k : Int) (w : World) (h : isKind k = false) : Calls Tryz.prog 95 #[.int .i64 k] w fun e w' => e = .returned (.tuple #[.agg nf, .bool false]) ∧ Below w.heap.size w w' := by
 unfold isKind at h
 simp only [decide_eq_false_iff_not, not_or] at h
 have h1 : (k == 1) = false := by simpa using h.1
 have h2 : (k == 2) = false := by simpa using h.2.1
 have h3 : (k == 3) = false := by simpa using h.2.2
 clear h
 go_enter Tryz.func95, Tryz.ntmps95
 go_wp2_with (refine wpList_store_row rfl _ _ _ rfl w.heap.size _ rfl rfl 154 _ (heap_alloc_new w _) infoKind rfl nf_one ?_; rw [World.setRow_alloc_new])
 refine bodyPost_ret (v := .tuple #[.agg nf, .bool false]) ?_ rfl ⟨rfl, below_one _ _⟩
 exact results_cr2 (p := 2) (u := 3) rfl _ _ w.heap.size _ rfl (load_kind (heap_alloc_new w _) rfl)
theorem kindMay (s : Rec) (h : isKind s.kind = true) : (∀ (args : Array Value) (w : World), (callFunc (kf s.kind).may args).run Tryz.prog w = .ok (.enter (kf s.kind).may args) w) ∧
  ∀ w, Calls Tryz.prog (kf s.kind).may #[.agg (iv s)] w fun e w' => e = .returned (.bool s.ownOk) ∧ Below w.heap.size w w' := by
 rcases kinds h with hk | hk | hk
 ·rw [hk, kf_one]
  have e : s.ownOk = s.dirOk := by unfold Rec.ownOk; rw [if_pos hk]
  rw [e]
  exact ⟨enters 141 Tryz.func141 (by kernel_rfl) rfl, mayDir_any s⟩
 ·rw [hk, kf_two]
  have e : s.ownOk = s.fileOk := by unfold Rec.ownOk; rw [if_neg (by omega), if_pos hk]
  rw [e]
  exact ⟨enters 145 Tryz.func145 (by kernel_rfl) rfl, mayFile_any s⟩
 ·rw [hk, kf_three]
  have e : s.ownOk = s.linkOk := by unfold Rec.ownOk; rw [if_neg (by omega), if_neg (by omega), if_pos hk]
  rw [e]
  exact ⟨enters 149 Tryz.func149 (by kernel_rfl) rfl, mayLink_any s⟩
set_option maxRecDepth 100000 in
set_option maxHeartbeats 2000000 in
theorem May_any (s : Rec) (w : World) : Calls Tryz.prog 94 #[.agg (iv s)] w fun e w' => e = .returned (.bool s.may) ∧ Below w.heap.size w w' := by
  obtain ⟨w1, hw1⟩ : ∃ w1, w1 = w.alloc (.cells (iv s) 98) := ⟨_, rfl⟩
  have hb1 : w1.heap[w.heap.size]? = some (.cells (iv s) 98 (0, 0)) := by rw [hw1]; exact heap_new rfl
  have HC : Hid (∀ wX, Below w1.heap.size w1 wX → ∀ k, wX.cell? ⟨w.heap.size, k, none⟩ = (iv s)[k]?) := fun wX h k => by
    rw [cell_of_row _ _ _ _ _ _ ((h.block _ (heap_lt hb1)).trans hb1)]
  have HX : Hid (∀ wX, Below w1.heap.size w1 wX → wX.heap[w.heap.size]? = some (.cells (iv s) 98 (0, 0))) := fun wX h => (h.block _ (heap_lt hb1)).trans hb1
  have HB1 : Hid (Below w.heap.size w w1) := by rw [hw1]; exact below_one _ _
  have HW1 := hide hw1
  have hkm := kindMay s
  clear hw1 hb1
  unfold iv at HW1 ⊢
  cases hk : isKind s.kind
  case false =>
    have HM : Hid (s.may = false) := may_kind hk
    have HK := hide (kindOf_no s.kind w1 hk)
    clear hkm hk
    go_enter Tryz.func94, Tryz.ntmps94
    go_wp2_with fail
    rw [← HW1.out]
    refine HK.out.mono ?_
    rintro r w2 ⟨rfl, b2⟩
    have HB2 : Hid (Below w.heap.size w w2) := HB1.out.trans (b2.mono HB1.out.size)
    clear b2 HK
    go_wp2_with (refine wpList_store_row rfl _ _ _ rfl w2.heap.size nf rfl rfl 154 _ (heap_alloc_new w2 _) infoKind rfl nf_one ?_; rw [World.setRow_alloc_new])
    go_ret
    exact ⟨ret_bool HM.out.symm, HB2.out.alloc HB2.out.size _⟩
  case true =>
    obtain ⟨hen, hma⟩ := hkm hk
    have HK := hide (kindOf_yes s.kind w1 hk)
    have HMa := hide hma
    have HD : Hid (s.may = (inn s.mode 0 511 && inn s.uid 0 2047 && inn s.gid 0 2047 && inn s.links 1 1024 && inn s.xattr 0 4294967295 && s.ownOk)) := rfl
    generalize kf s.kind = f at *
    clear hkm hk hma
    go_enter Tryz.func94, Tryz.ntmps94
    go_wp2_with fail
    rw [← HW1.out]
    refine HK.out.mono ?_
    rintro r w2 ⟨rfl, b2⟩
    have HB2 : Hid (Below w.heap.size w w2) := HB1.out.trans (b2.mono HB1.out.size)
    obtain ⟨w3, hw3⟩ : ∃ w3, w3 = w2.alloc (.cells f.v 154) := ⟨_, rfl⟩
    have hb3 : Below w1.heap.size w1 w3 := by rw [hw3]; exact b2.alloc b2.size _
    have c1 : w3.cell? ⟨w.heap.size, 1, none⟩ = some (.int .i64 s.mode) := HC.out w3 hb3 1
    have c2 : w3.cell? ⟨w.heap.size, 2, none⟩ = some (.int .i64 s.uid) := HC.out w3 hb3 2
    have c3 : w3.cell? ⟨w.heap.size, 3, none⟩ = some (.int .i64 s.gid) := HC.out w3 hb3 3
    have c4 : w3.cell? ⟨w.heap.size, 4, none⟩ = some (.int .i64 s.links) := HC.out w3 hb3 4
    have c5 : w3.cell? ⟨w.heap.size, 5, none⟩ = some (.int .i64 s.xattr) := HC.out w3 hb3 5
    have hx3 := HX.out w3 hb3
    have hf3 : w3.heap[w2.heap.size]? = some (.cells f.v 154 (0, 0)) := by rw [hw3]; exact heap_new rfl
    have cf : w3.cell? ⟨w2.heap.size, 0, none⟩ = some (.func (.func f.may) #[] #[]) := by rw [cell_of_row _ _ _ _ _ _ hf3]; rfl
    have HB3 : Hid (Below w.heap.size w w3) := by rw [hw3]; exact HB2.out.alloc HB2.out.size _
    have HW3 := hide hw3
    clear b2 HK hw3 hb3 hf3
    go_wp2_with (first
      | (refine wpList_store_row rfl _ _ _ rfl w2.heap.size f.v rfl rfl 154 _ (heap_alloc_new w2 _) infoKind rfl (kv_one _ _ _ _) ?_; rw [World.setRow_alloc_new, ← HW3.out])
      | (go_at_call 140; refine (within_any _ _ _ _).mono ?_; rintro e w1 ⟨rfl, rfl⟩)
      | refine wpList_load_rec (by rfl) _ rfl w.heap.size rfl 98 (iv s) (0, 0) hx3 rfl ?_)
    rotate_left
    all_goals first
      | (go_ret; refine ⟨ret_bool ?_, HB3.out⟩; rw [HD.out]; simp [*]; done)
      | (refine (HMa.out _).mono ?_
         rintro r w5 ⟨rfl, b5⟩
         have HB5 : Hid (Below w.heap.size w w5) := HB3.out.trans (b5.mono HB3.out.size)
         clear b5
         go_wp2
         go_ret
         refine ⟨ret_bool ?_, HB5.out⟩
         rw [HD.out]
         simp [*])
end Go.Proofs.YtoohanojfoichaaGreatDoor
namespace Go.Proofs.YtoohanojfoichaaGreatDoor
open Go.RowKit Go.Maps
open Cur
open Ino
namespace Ino
theorem WrDone.below {W w w' : World} {p B : Nat} {v : Value} {s : St} (h : WrDone W w p B v s) (hb : Below w.heap.size w w') : WrDone W w' p B v s := by
 obtain ⟨v', h1, h2, h3⟩ := h
 exact ⟨v', h1.below hb, h2.then (Fr.of_below hb), h3⟩
theorem WrDone.from {w W w' : World} {p B : Nat} {v : Value} {s : St} (hb : Below w.heap.size w W) (h : WrDone W w' p B v s) : WrDone w w' p B v s :=
 WrDone.trans (Fr.of_below hb) (Lie.refl _ _) h
theorem WrDone.size {W w : World} {p B : Nat} {v : Value} {s : St} (h : WrDone W w p B v s) : W.heap.size ≤ w.heap.size := by
 obtain ⟨v', h1, h2, h3⟩ := h
 exact h2.size
end Ino
theorem num_done (W : World) (p B : Nat) (v : Value) (zs : List Int) (x m : Int) (n : Nat) (w : World) (h : WrDone W w p B v (zs, 0)) (hB : B ≤ W.heap.size) (hl : zs.length ≤ 1000) (hm : m = (n : Int)) (h1 : 1 ≤ n) (h4 : n ≤ 4) (h0 : 0 ≤ x) (hx : x < 256 ^ n) :
  Calls Tryz.prog 64 #[.pointer (some ⟨p, 0, none⟩), .int .i64 x, .int .i64 m] w fun r w' => r = .returned (.tuple #[]) ∧ WrDone W w' p B v (zs ++ by' n x, 0) := by
 have hs := WrDone.size h
 obtain ⟨v', k1, k2, k3⟩ := h
 have h5 : (256 : Int) ^ n ≤ 256 ^ 4 := pow256 h4
 refine (wNum_any p B v' x m (zs, 0) w k1 (by omega) (by simp; omega) (by omega) (by omega)).mono ?_
 rintro r w' ⟨rfl, hD⟩
 rw [wNum_ok zs m n x hm h1 h4 h0 hx] at hD
 exact ⟨rfl, WrDone.trans k2 k3 hD⟩
theorem text_done (W : World) (p B : Nat) (v : Value) (zs : List Int) (t : ByteArray) (w : World) (h : WrDone W w p B v (zs, 0)) (hB : B ≤ W.heap.size) (hl : zs.length ≤ 1000) (ht : t.size ≤ 255) :
  Calls Tryz.prog 139 #[.pointer (some ⟨p, 0, none⟩), .string t] w fun r w' => r = .returned (.tuple #[]) ∧ WrDone W w' p B v (zs ++ ((t.size : Int) :: sb t), 0) := by
 have hs := WrDone.size h
 obtain ⟨v', k1, k2, k3⟩ := h
 refine (wText_any p B v' t (zs, 0) w k1 (by omega) (by simp; omega) (by omega)).mono ?_
 rintro r w' ⟨rfl, hD⟩
 rw [wTxt_ok zs t ht] at hD
 exact ⟨rfl, WrDone.trans k2 k3 hD⟩
def IPuts (s : Rec) (fn : Nat) : Prop := ∀ (p B : Nat) (v : Value) (zs : List Int) (w : World), WrP w p B v (zs, 0) → B ≤ w.heap.size → zs.length ≤ 900 →
 Calls Tryz.prog fn #[.pointer (some ⟨p, 0, none⟩), .agg (iv s)] w fun r w' => r = .returned (.tuple #[]) ∧ WrDone w w' p B v (zs ++ ownB s, 0)
set_option maxRecDepth 100000 in
theorem putDir_any (s : Rec) (h : s.may = true) (hk : s.kind = 1) : IPuts s 142 := by
 intro p B v zs w hw hB hl
 obtain ⟨hk', h1, h2, h3, h4, h5, h6⟩ := may_facts h
 obtain ⟨d1, d2, d3, d4, d5, d6⟩ := dir_facts hk h6
 obtain ⟨w1, hw1⟩ : ∃ w1, w1 = w.alloc (.cells (iv s) 98) := ⟨_, rfl⟩
 have hb1 : w1.heap[w.heap.size]? = some (.cells (iv s) 98 (0, 0)) := by rw [hw1]; exact heap_new rfl
 have bel : Below w.heap.size w w1 := by rw [hw1]; exact below_one _ _
 have HR0 : Hid (WrDone w1 w1 p B v (zs, 0)) := (hw.below bel).refl
 have hBs : B ≤ w1.heap.size := Nat.le_trans hB bel.size
 have hpk : p < w.heap.size := hw.lt
 have hvk : ∀ k, v.ownBlock = some k → k < w.heap.size := by
  obtain ⟨ao, n, c, rfl, _, ho, _⟩ := hw
  intro k hk
  exact (ho.lt k hk).2
 have HC : Hid (∀ wX ys, WrDone w1 wX p B v (ys, 0) → ∀ k, wX.cell? ⟨w.heap.size, k, none⟩ = (iv s)[k]?) := fun wX ys h k => by
  obtain ⟨v', g1, g2, g3⟩ := h
  rw [g2.cell (q := ⟨w.heap.size, k, none⟩) (heap_lt hb1) (fun hx => by rcases hx with hx | hx; (have : w.heap.size = p := hx; omega); (have := hvk _ hx; simp at this))]
  exact cell_of_row _ _ _ _ _ _ hb1
 have HE : Hid (ownB s = by' 4 s.start ++ by' 4 s.size) := by show _ = _; unfold ownB; rw [if_pos hk]
 have HBel := hide bel
 have HW1 := hide hw1
 clear hw hb1 hw1 bel hvk h h6 h1 h2 h3 h4 h5 hk' hk d1 d4 d5 d6
 unfold iv at HW1 ⊢
 go_enter Tryz.func142, Tryz.ntmps142
 go_wp2_with fail
 rw [← HW1.out]
 refine (num_done w1 p B v (zs) s.start 4 4 w1 HR0.out hBs (by omega) rfl (by omega) (by omega) (by omega) (by omega)).mono ?_
 rintro r v1 ⟨rfl, hD⟩
 have HR1 := hide hD
 have c1 : v1.cell? ⟨w.heap.size, 7, none⟩ = some (.int .i64 s.size) := HC.out v1 _ hD 7
 clear hD HR0
 go_wp2_with fail
 refine (num_done w1 p B v (zs ++ by' 4 s.start) s.size 4 4 v1 HR1.out hBs (by simp [by_length]; omega) rfl (by omega) (by omega) (by omega) (by omega)).mono ?_
 rintro r v2 ⟨rfl, hD⟩
 have HR2 := hide hD
 clear hD HR1 c1
 go_wp2
 go_end0
 refine ⟨rfl, WrDone.from HBel.out ?_⟩
 have := HR2.out
 rw [HE.out]
 simpa using this
set_option maxRecDepth 100000 in
theorem putFile_any (s : Rec) (h : s.may = true) (hk : s.kind = 2) : IPuts s 146 := by
 intro p B v zs w hw hB hl
 obtain ⟨hk', h1, h2, h3, h4, h5, h6⟩ := may_facts h
 obtain ⟨d1, d2, d3, d4, d5⟩ := file_facts hk h6
 obtain ⟨w1, hw1⟩ : ∃ w1, w1 = w.alloc (.cells (iv s) 98) := ⟨_, rfl⟩
 have hb1 : w1.heap[w.heap.size]? = some (.cells (iv s) 98 (0, 0)) := by rw [hw1]; exact heap_new rfl
 have bel : Below w.heap.size w w1 := by rw [hw1]; exact below_one _ _
 have HR0 : Hid (WrDone w1 w1 p B v (zs, 0)) := (hw.below bel).refl
 have hBs : B ≤ w1.heap.size := Nat.le_trans hB bel.size
 have hpk : p < w.heap.size := hw.lt
 have hvk : ∀ k, v.ownBlock = some k → k < w.heap.size := by
  obtain ⟨ao, n, c, rfl, _, ho, _⟩ := hw
  intro k hk
  exact (ho.lt k hk).2
 have HC : Hid (∀ wX ys, WrDone w1 wX p B v (ys, 0) → ∀ k, wX.cell? ⟨w.heap.size, k, none⟩ = (iv s)[k]?) := fun wX ys h k => by
  obtain ⟨v', g1, g2, g3⟩ := h
  rw [g2.cell (q := ⟨w.heap.size, k, none⟩) (heap_lt hb1) (fun hx => by rcases hx with hx | hx; (have : w.heap.size = p := hx; omega); (have := hvk _ hx; simp at this))]
  exact cell_of_row _ _ _ _ _ _ hb1
 have HE : Hid (ownB s = by' 4 s.start ++ (by' 2 s.size ++ (by' 2 s.frag ++ by' 1 s.off))) := by show _ = _; unfold ownB; rw [if_neg (by omega), if_pos hk]
 have HBel := hide bel
 have HW1 := hide hw1
 clear hw hb1 hw1 bel hvk h h6 h1 h2 h3 h4 h5 hk' hk d5
 unfold iv at HW1 ⊢
 go_enter Tryz.func146, Tryz.ntmps146
 go_wp2_with fail
 rw [← HW1.out]
 refine (num_done w1 p B v (zs) s.start 4 4 w1 HR0.out hBs (by omega) rfl (by omega) (by omega) (by omega) (by omega)).mono ?_
 rintro r v1 ⟨rfl, hD⟩
 have HR1 := hide hD
 have c1 : v1.cell? ⟨w.heap.size, 7, none⟩ = some (.int .i64 s.size) := HC.out v1 _ hD 7
 clear hD HR0
 go_wp2_with fail
 refine (num_done w1 p B v (zs ++ by' 4 s.start) s.size 2 2 v1 HR1.out hBs (by simp [by_length]; omega) rfl (by omega) (by omega) (by omega) (by omega)).mono ?_
 rintro r v2 ⟨rfl, hD⟩
 have HR2 := hide hD
 have c2 : v2.cell? ⟨w.heap.size, 8, none⟩ = some (.int .i64 s.frag) := HC.out v2 _ hD 8
 clear hD HR1 c1
 go_wp2_with fail
 refine (num_done w1 p B v (zs ++ by' 4 s.start ++ by' 2 s.size) s.frag 2 2 v2 HR2.out hBs (by simp [by_length]; omega) rfl (by omega) (by omega) (by omega) (by omega)).mono ?_
 rintro r v3 ⟨rfl, hD⟩
 have HR3 := hide hD
 have c3 : v3.cell? ⟨w.heap.size, 9, none⟩ = some (.int .i64 s.off) := HC.out v3 _ hD 9
 clear hD HR2 c2
 go_wp2_with fail
 refine (num_done w1 p B v (zs ++ by' 4 s.start ++ by' 2 s.size ++ by' 2 s.frag) s.off 1 1 v3 HR3.out hBs (by simp [by_length]; omega) rfl (by omega) (by omega) (by omega) (by omega)).mono ?_
 rintro r v4 ⟨rfl, hD⟩
 have HR4 := hide hD
 clear hD HR3 c3
 go_wp2
 go_end0
 refine ⟨rfl, WrDone.from HBel.out ?_⟩
 have := HR4.out
 rw [HE.out]
 simpa using this
set_option maxRecDepth 100000 in
theorem putLink_any (s : Rec) (h : s.may = true) (hk : s.kind = 3) : IPuts s 150 := by
 intro p B v zs w hw hB hl
 obtain ⟨hk', h1, h2, h3, h4, h5, h6⟩ := may_facts h
 obtain ⟨d1, d2, d3, d4, d5⟩ := link_facts hk h6
 obtain ⟨w1, hw1⟩ : ∃ w1, w1 = w.alloc (.cells (iv s) 98) := ⟨_, rfl⟩
 have hb1 : w1.heap[w.heap.size]? = some (.cells (iv s) 98 (0, 0)) := by rw [hw1]; exact heap_new rfl
 have bel : Below w.heap.size w w1 := by rw [hw1]; exact below_one _ _
 have HR0 : Hid (WrDone w1 w1 p B v (zs, 0)) := (hw.below bel).refl
 have hBs : B ≤ w1.heap.size := Nat.le_trans hB bel.size
 have hpk : p < w.heap.size := hw.lt
 have hvk : ∀ k, v.ownBlock = some k → k < w.heap.size := by
  obtain ⟨ao, n, c, rfl, _, ho, _⟩ := hw
  intro k hk
  exact (ho.lt k hk).2
 have HC : Hid (∀ wX ys, WrDone w1 wX p B v (ys, 0) → ∀ k, wX.cell? ⟨w.heap.size, k, none⟩ = (iv s)[k]?) := fun wX ys h k => by
  obtain ⟨v', g1, g2, g3⟩ := h
  rw [g2.cell (q := ⟨w.heap.size, k, none⟩) (heap_lt hb1) (fun hx => by rcases hx with hx | hx; (have : w.heap.size = p := hx; omega); (have := hvk _ hx; simp at this))]
  exact cell_of_row _ _ _ _ _ _ hb1
 have HE : Hid (ownB s = (s.target.size : Int) :: sb s.target) := by show _ = _; unfold ownB; rw [if_neg (by omega), if_neg (by omega), if_pos hk]
 have HBel := hide bel
 have HW1 := hide hw1
 clear hw hb1 hw1 bel hvk h h6 h1 h2 h3 h4 h5 hk' hk d2 d3 d4 d5
 unfold iv at HW1 ⊢
 go_enter Tryz.func150, Tryz.ntmps150
 go_wp2_with fail
 rw [← HW1.out]
 refine (text_done w1 p B v (zs) s.target w1 HR0.out hBs (by omega) (by omega)).mono ?_
 rintro r v1 ⟨rfl, hD⟩
 have HR1 := hide hD
 clear hD HR0
 go_wp2
 go_end0
 refine ⟨rfl, WrDone.from HBel.out ?_⟩
 have := HR1.out
 rw [HE.out]
 simpa using this
theorem kindPut (s : Rec) (h : s.may = true) : (∀ (args : Array Value) (w : World), (callFunc (kf s.kind).put args).run Tryz.prog w = .ok (.enter (kf s.kind).put args) w) ∧ IPuts s (kf s.kind).put := by
 rcases kinds (kind_may h) with hk | hk | hk
 ·rw [hk, kf_one]
  exact ⟨enters 142 Tryz.func142 (by kernel_rfl) rfl, putDir_any s h hk⟩
 ·rw [hk, kf_two]
  exact ⟨enters 146 Tryz.func146 (by kernel_rfl) rfl, putFile_any s h hk⟩
 ·rw [hk, kf_three]
  exact ⟨enters 150 Tryz.func150 (by kernel_rfl) rfl, putLink_any s h hk⟩
def PutAns (s : Rec) (w : World) (e : Ending) (w' : World) : Prop :=
 (s.may = true ∧ ∃ ao c, e = .returned (.tuple #[.slice ao (putB s).length c, .int .i64 0]) ∧ New w w' ao (putB s).length c (putB s)) ∨ (s.may = false ∧ e = .returned (.tuple #[.slice none 0 0, .int .i64 1]) ∧ Below w.heap.size w w')
set_option maxRecDepth 100000 in
set_option maxHeartbeats 4000000 in
theorem iPut_any (s : Rec) (w : World) : Calls Tryz.prog 49 #[.agg (iv s)] w fun e w' => PutAns s w e w' := by
 obtain ⟨w1, hw1⟩ : ∃ w1, w1 = w.alloc (.cells (iv s) 98) := ⟨_, rfl⟩
 have hb1 : w1.heap[w.heap.size]? = some (.cells (iv s) 98 (0, 0)) := by rw [hw1]; exact heap_new rfl
 have HB1 : Hid (Below w.heap.size w w1) := by rw [hw1]; exact below_one _ _
 have HMay := hide (May_any s w1)
 have HW1 := hide hw1
 have H1 := hide hb1
 clear hw1
 cases hq : s.may
 case false =>
  have HQ := hide hq
  rw [hq] at HMay
  clear hq hb1
  unfold iv at HW1 ⊢
  go_enter Tryz.func49, Tryz.ntmps49
  go_wp2_with fail
  rw [← HW1.out]
  refine HMay.out.mono ?_
  rintro r w2 ⟨rfl, b2⟩
  have HB2 : Hid (Below w.heap.size w w2) := HB1.out.trans (b2.mono HB1.out.size)
  clear b2 HMay
  go_wp2
  go_ret2
  exact .inr ⟨HQ.out, rfl, HB2.out⟩
 case true =>
  have HQ := hide hq
  rw [hq] at HMay
  obtain ⟨hen, hpu⟩ := kindPut s hq
  have HK := hide (fun w => kindOf_yes s.kind w (kind_may hq))
  have HP := hide hpu
  obtain ⟨hk, m1, m2, m3, m4, m5, m6⟩ := may_facts hq
  have hkk : 0 ≤ s.kind ∧ s.kind ≤ 3 := by have := kinds hk; omega
  generalize kf s.kind = f at *
  clear hq hb1 hpu hk m6
  unfold iv at HW1 ⊢
  go_enter Tryz.func49, Tryz.ntmps49
  go_wp2_with fail
  rw [← HW1.out]
  refine HMay.out.mono ?_
  rintro r w2 ⟨rfl, b2⟩
  have HB2 : Hid (Below w.heap.size w w2) := HB1.out.trans (b2.mono HB1.out.size)
  have h2 : w2.heap[w.heap.size]? = some (.cells (iv s) 98 (0, 0)) := (b2.block _ (heap_lt H1.out)).trans H1.out
  have hs2 := heap_lt h2
  obtain ⟨w3, hw3⟩ : ∃ w3, w3 = w2.alloc (.cells #[.slice none 0 0, .int .i64 0] 120) := ⟨_, rfl⟩
  have b23 : Below w2.heap.size w2 w3 := by rw [hw3]; exact below_one _ _
  have h3 : w3.heap[w.heap.size]? = some (.cells (iv s) 98 (0, 0)) := (b23.block _ hs2).trans h2
  have HB3 : Hid (Below w.heap.size w w3) := HB2.out.trans (b23.mono HB2.out.size)
  have s3 : w3.heap.size = w2.heap.size + 1 := by rw [hw3]; simp
  have HR0 : Hid (WrDone w3 w3 w2.heap.size w3.heap.size (.slice none 0 0) ([], 0)) := by
   refine WrP.refl ?_
   have := WrP.new w2 w3.heap.size
   rw [← hw3] at this
   exact this
  have HX : Hid (∀ wX ys, WrDone w3 wX w2.heap.size w3.heap.size (.slice none 0 0) (ys, 0) → wX.heap[w.heap.size]? = some (.cells (iv s) 98 (0, 0)) ∧ Below w.heap.size w wX) := fun wX ys h => by
   obtain ⟨v', g1, g2, g3⟩ := h
   refine ⟨(g2.block _ (heap_lt h3) (fun hx => by rcases hx with hx | hx; (have : w.heap.size = w2.heap.size := hx; omega); (simp [Value.ownBlock] at hx))).trans h3, ?_⟩
   have := g2.two_below (B := w2.heap.size) (by omega) (Nat.le_refl _) (fun k hk => by simp [Value.ownBlock] at hk)
   exact HB3.out.trans (this.mono HB2.out.size)
  have HC : Hid (∀ wX ys, WrDone w3 wX w2.heap.size w3.heap.size (.slice none 0 0) (ys, 0) → ∀ k, wX.cell? ⟨w.heap.size, k, none⟩ = (iv s)[k]?) := fun wX ys h k => cell_of_row _ _ _ _ _ _ (HX.out wX ys h).1
  have c0 : (w2.alloc (.cells #[.slice none 0 0, .int .i64 0] 120)).cell? ⟨w.heap.size, 0, none⟩ = some (.int .i64 s.kind) := by rw [← hw3]; exact HC.out w3 _ HR0.out 0
  have HW3 := hide hw3
  clear b2 HMay hw3 b23 h2 h3
  go_wp2_with fail
  rw [← HW3.out]
  refine (num_done w3 w2.heap.size w3.heap.size (.slice none 0 0) ([]) s.kind 1 1 w3 HR0.out (Nat.le_refl _) (by simp) rfl (by omega) (by omega) (by omega) (by omega)).mono ?_
  rintro r v1 ⟨rfl, hD⟩
  have HR1 := hide hD
  have c1 : v1.cell? ⟨w.heap.size, 1, none⟩ = some (.int .i64 s.mode) := HC.out v1 _ hD 1
  clear hD HR0 c0
  go_wp2_with fail
  refine (num_done w3 w2.heap.size w3.heap.size (.slice none 0 0) ([] ++ by' 1 s.kind) s.mode 2 2 v1 HR1.out (Nat.le_refl _) (by simp [by_length]) rfl (by omega) (by omega) (by omega) (by omega)).mono ?_
  rintro r v2 ⟨rfl, hD⟩
  have HR2 := hide hD
  have c2 : v2.cell? ⟨w.heap.size, 2, none⟩ = some (.int .i64 s.uid) := HC.out v2 _ hD 2
  clear hD HR1 c1
  go_wp2_with fail
  refine (num_done w3 w2.heap.size w3.heap.size (.slice none 0 0) ([] ++ by' 1 s.kind ++ by' 2 s.mode) s.uid 2 2 v2 HR2.out (Nat.le_refl _) (by simp [by_length]) rfl (by omega) (by omega) (by omega) (by omega)).mono ?_
  rintro r v3 ⟨rfl, hD⟩
  have HR3 := hide hD
  have c3 : v3.cell? ⟨w.heap.size, 3, none⟩ = some (.int .i64 s.gid) := HC.out v3 _ hD 3
  clear hD HR2 c2
  go_wp2_with fail
  refine (num_done w3 w2.heap.size w3.heap.size (.slice none 0 0) ([] ++ by' 1 s.kind ++ by' 2 s.mode ++ by' 2 s.uid) s.gid 2 2 v3 HR3.out (Nat.le_refl _) (by simp [by_length]) rfl (by omega) (by omega) (by omega) (by omega)).mono ?_
  rintro r v4 ⟨rfl, hD⟩
  have HR4 := hide hD
  have c4 : v4.cell? ⟨w.heap.size, 4, none⟩ = some (.int .i64 s.links) := HC.out v4 _ hD 4
  clear hD HR3 c3
  go_wp2_with fail
  refine (num_done w3 w2.heap.size w3.heap.size (.slice none 0 0) ([] ++ by' 1 s.kind ++ by' 2 s.mode ++ by' 2 s.uid ++ by' 2 s.gid) s.links 2 2 v4 HR4.out (Nat.le_refl _) (by simp [by_length]) rfl (by omega) (by omega) (by omega) (by omega)).mono ?_
  rintro r v5 ⟨rfl, hD⟩
  have HR5 := hide hD
  have c5 : v5.cell? ⟨w.heap.size, 5, none⟩ = some (.int .i64 s.xattr) := HC.out v5 _ hD 5
  clear hD HR4 c4
  go_wp2_with fail
  refine (num_done w3 w2.heap.size w3.heap.size (.slice none 0 0) ([] ++ by' 1 s.kind ++ by' 2 s.mode ++ by' 2 s.uid ++ by' 2 s.gid ++ by' 2 s.links) s.xattr 4 4 v5 HR5.out (Nat.le_refl _) (by simp [by_length]) rfl (by omega) (by omega) (by omega) (by omega)).mono ?_
  rintro r v6 ⟨rfl, hD⟩
  have HR6 := hide hD
  have c6 : v6.cell? ⟨w.heap.size, 0, none⟩ = some (.int .i64 s.kind) := HC.out v6 _ hD 0
  clear hD HR5 c5
  go_wp2_with fail
  refine (HK.out v6).mono ?_
  rintro r w4 ⟨rfl, b4⟩
  obtain ⟨w5, hw5⟩ : ∃ w5, w5 = w4.alloc (.cells f.v 154) := ⟨_, rfl⟩
  have b5 : Below v6.heap.size v6 w5 := by rw [hw5]; exact b4.alloc b4.size _
  have hR5 := WrDone.below HR6.out b5
  have hx5 := (HX.out w5 _ hR5).1
  have hf5 : w5.heap[w4.heap.size]? = some (.cells f.v 154 (0, 0)) := by rw [hw5]; exact heap_new rfl
  have cf : w5.cell? ⟨w4.heap.size, 1, none⟩ = some (.func (.func f.put) #[] #[]) := by rw [cell_of_row _ _ _ _ _ _ hf5]; rfl
  have HR5 := hide hR5
  have HW5 := hide hw5
  clear b4 hw5 b5 hf5 hR5 HR6 c6
  go_wp2_with (first
   | (refine wpList_store_row rfl _ _ _ rfl w4.heap.size f.v rfl rfl 154 _ (heap_alloc_new w4 _) infoKind rfl (kv_one _ _ _ _) ?_; rw [World.setRow_alloc_new, ← HW5.out])
   | refine wpList_load_rec (by rfl) _ rfl w.heap.size rfl 98 (iv s) (0, 0) hx5 rfl ?_)
  obtain ⟨v5, g1, g2, g3⟩ := HR5.out
  refine (HP.out w2.heap.size w3.heap.size v5 _ w5 g1 g2.size (by simp [by_length])).mono ?_
  rintro r w6 ⟨rfl, hD⟩
  have hR6 := WrDone.trans g2 g3 hD
  have eB : [] ++ by' 1 s.kind ++ by' 2 s.mode ++ by' 2 s.uid ++ by' 2 s.gid ++ by' 2 s.links ++ by' 4 s.xattr ++ ownB s = putB s := by simp [putB, headB]
  rw [eB] at hR6
  have HB6 : Hid (Below w.heap.size w w6) := (HX.out w6 _ hR6).2
  obtain ⟨v6', k1, k2, k3⟩ := hR6
  have HP6 := hide k1
  clear g1 g2 g3 hD k1 k2 k3 eB hx5 cf
  go_wp2_with fail
  refine (DoneNew_any w2.heap.size w3.heap.size v6' (putB s, 0) w6 HP6.out (by have := (putB_least HQ.out).2; simp; omega)).mono ?_
  rintro r w7 ⟨ao, c, rfl, hN⟩
  obtain ⟨ao7, n7, c7, hv7, hH7, h7⟩ := (HP6.out.below hN.bel).shape
  have HN := hide (hN.from HB6.out)
  have HE := hide (Err_any _ _ _ _ _ _ _ hH7)
  clear hN hv7 hH7 h7 HR5
  go_wp2_with fail
  refine HE.out.mono ?_
  rintro r w8 ⟨rfl, hw8⟩
  obtain rfl := hw8
  clear HE
  go_wp2
  go_ret2
  exact .inl ⟨HQ.out, ao, c, rfl, HN.out⟩
end Go.Proofs.YtoohanojfoichaaGreatDoor

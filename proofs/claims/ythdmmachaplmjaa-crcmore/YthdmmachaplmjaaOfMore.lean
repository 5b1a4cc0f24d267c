/- The walk of CrcMore: a sum goes on from any other one, by any table, as the document says; the table stays. -/
import Derived.Test.YthdmmachaplmjaaOf
namespace Go.Proofs.Ythdmmachaplmjaa
set_option linter.unusedVariables false
open Go.RowKit Go.Maps
open Lz (g)
open Crc (stp steps ent bt run more)

set_option maxRecDepth 100000 in
set_option maxHeartbeats 4000000 in
theorem more_walk (T : Nat → Nat) (a1 : Int) (a2 : Option Addr) (len2 cap2 : Nat) (z2 : List Int) (w : World) (hS : Small T) (w1 : (Lit.int .u32 a1).wf = true) (w2 : RowB w a2 len2 cap2 z2) :
    Calls Try.prog 5 #[.agg (tab T), .int .u32 a1, .slice a2 len2 cap2] w fun e w' => e = .returned (.bool true) ∧ Below w.heap.size w w' := by
  obtain ⟨hz, hi'⟩ := zero_of_info infoTable
  obtain ⟨hbs, hlc, hcm, hby, hnil⟩ := w2.bs (min len2 600) (by omega)
  obtain ⟨hs0, hs1⟩ := wf_u32 w1
  obtain ⟨s, rfl⟩ : ∃ s : Nat, a1 = (s : Int) := ⟨a1.toNat, by omega⟩
  have hs : s < 4294967296 := by omega
  generalize z2.take (min len2 600) = zs at hbs hby
  obtain ⟨C, hC⟩ : ∃ C, C = tab T := ⟨_, rfl⟩
  have hCs : C.size = 256 := by rw [hC]; exact tab_size _
  rw [← hC]
  obtain ⟨CL, rfl⟩ : ∃ CL : List Value, C = CL.toArray := ⟨C.toList, by simp⟩
  have HC : Hid (CL.toArray = tab T) := hC
  have hCs' : CL.length = 256 := by simpa using hCs
  have HS : Hid (CL.length = 256) := hCs'
  clear hCs'
  have H1 : Hid (∀ v ∈ CL, v.oneCell' = true) := fun v hv => by
    have := tab_one T
    rw [← hC] at this
    exact (Array.all_eq_true_iff_forall_mem.1 this) v (by simpa using hv)
  clear w1 w2 hC hCs
  go_enter Try.func5, Try.ntmps5
  go_wp2_with fail
  refine (shown_any _).mono ?_
  rintro r ws ⟨rfl, hbs0⟩
  have hsz0 := hbs0.size
  rw [World.size_alloc] at hbs0 hsz0
  have hg0 : ws.heap[w.heap.size]? = some (Obj.cells CL.toArray 24 (0, 0)) := by
    rw [hbs0.block _ (by omega)]
    exact heap_alloc_new w _
  have hbw : Below w.heap.size w ws := ((Below.refl _ _).alloc (Nat.le_refl _) _).trans (hbs0.mono (by omega))
  go_wp2_with fail
  refine (few_any a2 len2 cap2 ws hlc).mono ?_
  rintro r wx ⟨rfl, rfl⟩
  have h1 := hbs.below hbw
  generalize hm : min len2 600 = m at *
  have hm1 : m ≤ 600 := by omega
  have hm2 : m ≤ cap2 := by omega
  clear hm
  have i24 : (Try.prog.info? 24).map (·.size) = some 256 := by kernel_rfl
  have HG : Hid (wx.heap[w.heap.size]? = some (Obj.cells CL.toArray 24 (0, 0))) := hg0
  clear hg0
  go_wp2_with (first
    | (refine wpList_load_row rfl _ _ rfl w.heap.size rfl 24 CL.toArray (0, 0) _ HG.out Try.underlying24 rfl (by simp [HS.out]; simpa using i24) ?_)
    | (refine wpList_store_table rfl _ _ rfl T CL.toArray HC.out rfl rfl _ (by simp) ?_; intro w3 ht3 hT3 hlt3 hb3))
  have h3 := h1.below hb3
  have HG3 : w3.heap[w.heap.size]? = some (Obj.cells CL.toArray 24 (0, 0)) := by rw [hb3.block _ (by omega)]; exact HG.out
  have r0 : w3.rangeAt w.heap.size 0 CL := fun j v hv => by
    rw [Nat.zero_add, cell_of_row _ _ j _ _ _ HG3]; simpa using hv
  have r1 : w3.rangeAt wx.heap.size 0 CL := fun j v hv => by
    rw [Nat.zero_add, cell_of_row _ _ j _ _ _ ht3.out]; simpa using hv
  have u24 := Try.underlying24
  have u25 := Try.underlying25
  have n24 : (Try.prog.info? 24).map (·.size) = some CL.length := by rw [HS.out]; exact i24
  have n25 : (Try.prog.info? 25).map (·.size) = some CL.length := by rw [HS.out]; exact hi'
  have hlen : CL.length = 256 := HS.out
  have hone := H1.out
  have heq := fun w => eql_self w CL.toArray T HC.out
  have r0a : (w3.drew.alloc (Obj.cells CL.toArray 24)).rangeAt w.heap.size 0 CL := fun j v hv => by
    rw [World.cell?_alloc_lt _ _ _ (by show w.heap.size < w3.heap.size; omega)]; exact r0 j v hv
  have r1a : (w3.drew.alloc (Obj.cells CL.toArray 24)).rangeAt wx.heap.size 0 CL := fun j v hv => by
    rw [World.cell?_alloc_lt _ _ _ (by show wx.heap.size < w3.heap.size; omega)]; exact r1 j v hv
  have HB : Hid (Below w.heap.size w (w3.drew.alloc (Obj.cells CL.toArray 24))) := by
    have e2 := hbw.trans (hb3.mono hbw.size)
    exact e2.drew.alloc e2.size _
  obtain ⟨M, hM⟩ : ∃ M, M = more T s zs := ⟨_, rfl⟩
  have cM := (More_any wx.heap.size s m cap2 T a2 zs w3.drew (by exact hT3) hS hs (by exact h3) (by omega))
  have cO := (refOf_any s m cap2 T _ HC.out a2 zs w3.drew hS hs (by exact h3) (by omega))
  rw [← hM] at cM cO
  have HM : Hid (Calls _ _ _ _ _) := cM
  have HO : Hid (Calls _ _ _ _ _) := cO
  have HE : Hid (∀ w, (binOp .eql 25 (.agg CL.toArray) (.agg CL.toArray)).run Try.prog w = .ok (.bool true) w) := heq
  clear hi' i24 HG HG3 ht3 hb3 h1 hbs hbs0 cM cO hM heq hT3 hz hby hone hlen h3 hbw
  refine wp_region_noPanic ?_
  refine wp_region_held_drew (S := fun w' => w'.rangeAt w.heap.size 0 CL ∧ w'.rangeAt wx.heap.size 0 CL) (by kernel_rfl) ⟨r0, r1⟩ (fun hHeld => ?_)
  change wpAnyH _ _ _ _ _ _ _ ({ tmps := #[.agg CL.toArray, .int .u32 s, .slice a2 m cap2, .pointer (some ⟨w.heap.size, 0, none⟩), undef, undef, .bool false, .bool true, .pointer (some ⟨wx.heap.size, 0, none⟩), .bool true, .slice a2 len2 cap2, .slice a2 m cap2, .agg CL.toArray, undef, undef, undef, undef, undef, undef, undef, undef, undef, undef, undef, undef, undef, undef, undef, undef], defers := [] } : Act) _
  refine wpAnyH_take (i := 0) (v := .bool true) rfl (by kernel_rfl) (by kernel_rfl) (by kernel_rfl) (fun _ _ _ h => h) (Or.inl ⟨by rfl, by intro w hSw; go_simp⟩) hHeld ?_
  change wpAnyH _ _ _ _ _ _ _ ({ tmps := #[.agg CL.toArray, .int .u32 s, .slice a2 m cap2, .pointer (some ⟨w.heap.size, 0, none⟩), undef, undef, .bool false, .bool true, .pointer (some ⟨wx.heap.size, 0, none⟩), .bool true, .slice a2 len2 cap2, .slice a2 m cap2, .agg CL.toArray, .bool true, undef, undef, undef, undef, undef, undef, undef, undef, undef, undef, undef, undef, undef, undef, undef], defers := [] } : Act) _
  refine wpAnyH_take (i := 1) (v := .bool true) rfl (by kernel_rfl) (by kernel_rfl) (by kernel_rfl) (fun _ _ _ h => h) (Or.inl ⟨by rfl, by intro w hSw; go_simp⟩) hHeld ?_
  change wpAnyH _ _ _ _ _ _ _ ({ tmps := #[.agg CL.toArray, .int .u32 s, .slice a2 m cap2, .pointer (some ⟨w.heap.size, 0, none⟩), undef, undef, .bool false, .bool true, .pointer (some ⟨wx.heap.size, 0, none⟩), .bool true, .slice a2 len2 cap2, .slice a2 m cap2, .agg CL.toArray, .bool true, .bool true, undef, undef, undef, undef, undef, undef, undef, undef, undef, undef, undef, undef, undef, undef], defers := [] } : Act) _
  refine wpAnyH_take (i := 2) (v := .int .u32 s) rfl (by kernel_rfl) (by kernel_rfl) (by kernel_rfl) (fun _ _ _ h => h) (Or.inl ⟨by rfl, by intro w hSw; go_simp⟩) hHeld ?_
  change wpAnyH _ _ _ _ _ _ _ ({ tmps := #[.agg CL.toArray, .int .u32 s, .slice a2 m cap2, .pointer (some ⟨w.heap.size, 0, none⟩), undef, undef, .bool false, .bool true, .pointer (some ⟨wx.heap.size, 0, none⟩), .bool true, .slice a2 len2 cap2, .slice a2 m cap2, .agg CL.toArray, .bool true, .bool true, .int .u32 s, undef, undef, undef, undef, undef, undef, undef, undef, undef, undef, undef, undef, undef], defers := [] } : Act) _
  refine wpAnyH_take (i := 3) (v := .slice a2 m cap2) rfl (by kernel_rfl) (by kernel_rfl) (by kernel_rfl) (fun _ _ _ h => h) (Or.inl ⟨by rfl, by intro w hSw; go_simp⟩) hHeld ?_
  change wpAnyH _ _ _ _ _ _ _ ({ tmps := #[.agg CL.toArray, .int .u32 s, .slice a2 m cap2, .pointer (some ⟨w.heap.size, 0, none⟩), undef, undef, .bool false, .bool true, .pointer (some ⟨wx.heap.size, 0, none⟩), .bool true, .slice a2 len2 cap2, .slice a2 m cap2, .agg CL.toArray, .bool true, .bool true, .int .u32 s, .slice a2 m cap2, undef, undef, undef, undef, undef, undef, undef, undef, undef, undef, undef, undef], defers := [] } : Act) _
  refine wpAnyH_take (i := 5) (v := .agg CL.toArray) rfl (by kernel_rfl) (by kernel_rfl) (by kernel_rfl) (fun _ _ _ h => h) (yieldsIf_load_mid (by rfl) _ _ rfl _ _ rfl CL _ (fun _ h => h.1) u24 rfl n24) hHeld ?_
  change wpAnyH _ _ _ _ _ _ _ ({ tmps := #[.agg CL.toArray, .int .u32 s, .slice a2 m cap2, .pointer (some ⟨w.heap.size, 0, none⟩), undef, undef, .bool false, .bool true, .pointer (some ⟨wx.heap.size, 0, none⟩), .bool true, .slice a2 len2 cap2, .slice a2 m cap2, .agg CL.toArray, .bool true, .bool true, .int .u32 s, .slice a2 m cap2, undef, .agg CL.toArray, undef, undef, undef, undef, undef, undef, undef, undef, undef, undef], defers := [] } : Act) _
  refine wpAnyH_take (i := 6) (v := .int .u32 s) rfl (by kernel_rfl) (by kernel_rfl) (by kernel_rfl) (fun _ _ _ h => h) (Or.inl ⟨by rfl, by intro w hSw; go_simp⟩) hHeld ?_
  change wpAnyH _ _ _ _ _ _ _ ({ tmps := #[.agg CL.toArray, .int .u32 s, .slice a2 m cap2, .pointer (some ⟨w.heap.size, 0, none⟩), undef, undef, .bool false, .bool true, .pointer (some ⟨wx.heap.size, 0, none⟩), .bool true, .slice a2 len2 cap2, .slice a2 m cap2, .agg CL.toArray, .bool true, .bool true, .int .u32 s, .slice a2 m cap2, undef, .agg CL.toArray, .int .u32 s, undef, undef, undef, undef, undef, undef, undef, undef, undef], defers := [] } : Act) _
  refine wpAnyH_take (i := 7) (v := .slice a2 m cap2) rfl (by kernel_rfl) (by kernel_rfl) (by kernel_rfl) (fun _ _ _ h => h) (Or.inl ⟨by rfl, by intro w hSw; go_simp⟩) hHeld ?_
  change wpAnyH _ _ _ _ _ _ _ ({ tmps := #[.agg CL.toArray, .int .u32 s, .slice a2 m cap2, .pointer (some ⟨w.heap.size, 0, none⟩), undef, undef, .bool false, .bool true, .pointer (some ⟨wx.heap.size, 0, none⟩), .bool true, .slice a2 len2 cap2, .slice a2 m cap2, .agg CL.toArray, .bool true, .bool true, .int .u32 s, .slice a2 m cap2, undef, .agg CL.toArray, .int .u32 s, .slice a2 m cap2, undef, undef, undef, undef, undef, undef, undef, undef], defers := [] } : Act) _
  refine wpAnyH_ready (rs := [4]) (by kernel_rfl) (by simp) ?_
  refine AllReadyH.cons rfl (fun K hK => ?_) AllReadyH.nil
  go_simp
  refine HM.out.mono ?_
  rintro r wy ⟨rfl, rfl⟩
  refine hK.out _ _ ?_ (fun hHeld => ?_)
  · exact ⟨r0, r1⟩
  clear hK K
  change wpAnyH _ _ _ _ _ _ _ ({ tmps := #[.agg CL.toArray, .int .u32 s, .slice a2 m cap2, .pointer (some ⟨w.heap.size, 0, none⟩), undef, undef, .bool false, .bool true, .pointer (some ⟨wx.heap.size, 0, none⟩), .bool true, .slice a2 len2 cap2, .slice a2 m cap2, .agg CL.toArray, .bool true, .bool true, .int .u32 s, .slice a2 m cap2, .int .u32 M, .agg CL.toArray, .int .u32 s, .slice a2 m cap2, undef, undef, undef, undef, undef, undef, undef, undef], defers := [] } : Act) _
  refine wpAnyH_ready (rs := [8]) (by kernel_rfl) (by simp) ?_
  refine AllReadyH.cons rfl (fun K hK => ?_) AllReadyH.nil
  go_simp
  refine (HO.out).mono ?_
  rintro r wy ⟨rfl, rfl⟩
  refine hK.out _ _ ?_ (fun hHeld => ?_)
  · exact ⟨r0a, r1a⟩
  clear hK K
  change wpAnyH _ _ _ _ _ _ _ ({ tmps := #[.agg CL.toArray, .int .u32 s, .slice a2 m cap2, .pointer (some ⟨w.heap.size, 0, none⟩), undef, undef, .bool false, .bool true, .pointer (some ⟨wx.heap.size, 0, none⟩), .bool true, .slice a2 len2 cap2, .slice a2 m cap2, .agg CL.toArray, .bool true, .bool true, .int .u32 s, .slice a2 m cap2, .int .u32 M, .agg CL.toArray, .int .u32 s, .slice a2 m cap2, .int .u32 M, undef, undef, undef, undef, undef, undef, undef], defers := [] } : Act) _
  refine wpAnyH_take (i := 9) (v := .bool true) rfl (by kernel_rfl) (by kernel_rfl) (by kernel_rfl) (fun _ _ _ h => h) (Or.inl ⟨by rfl, by intro w hSw; go_simp⟩) hHeld ?_
  change wpAnyH _ _ _ _ _ _ _ ({ tmps := #[.agg CL.toArray, .int .u32 s, .slice a2 m cap2, .pointer (some ⟨w.heap.size, 0, none⟩), undef, undef, .bool false, .bool true, .pointer (some ⟨wx.heap.size, 0, none⟩), .bool true, .slice a2 len2 cap2, .slice a2 m cap2, .agg CL.toArray, .bool true, .bool true, .int .u32 s, .slice a2 m cap2, .int .u32 M, .agg CL.toArray, .int .u32 s, .slice a2 m cap2, .int .u32 M, .bool true, undef, undef, undef, undef, undef, undef], defers := [] } : Act) _
  refine wpAnyH_take (i := 10) (v := .bool true) rfl (by kernel_rfl) (by kernel_rfl) (by kernel_rfl) (fun _ _ _ h => h) (Or.inl ⟨by rfl, by intro w hSw; go_simp⟩) hHeld ?_
  change wpAnyH _ _ _ _ _ _ _ ({ tmps := #[.agg CL.toArray, .int .u32 s, .slice a2 m cap2, .pointer (some ⟨w.heap.size, 0, none⟩), undef, undef, .bool false, .bool true, .pointer (some ⟨wx.heap.size, 0, none⟩), .bool true, .slice a2 len2 cap2, .slice a2 m cap2, .agg CL.toArray, .bool true, .bool true, .int .u32 s, .slice a2 m cap2, .int .u32 M, .agg CL.toArray, .int .u32 s, .slice a2 m cap2, .int .u32 M, .bool true, .bool true, undef, undef, undef, undef, undef], defers := [] } : Act) _
  refine wpAnyH_take (i := 11) (v := .bool true) rfl (by kernel_rfl) (by kernel_rfl) (by kernel_rfl) (fun _ _ _ h => h) (Or.inl ⟨by rfl, by intro w hSw; go_simp⟩) hHeld ?_
  change wpAnyH _ _ _ _ _ _ _ ({ tmps := #[.agg CL.toArray, .int .u32 s, .slice a2 m cap2, .pointer (some ⟨w.heap.size, 0, none⟩), undef, undef, .bool false, .bool true, .pointer (some ⟨wx.heap.size, 0, none⟩), .bool true, .slice a2 len2 cap2, .slice a2 m cap2, .agg CL.toArray, .bool true, .bool true, .int .u32 s, .slice a2 m cap2, .int .u32 M, .agg CL.toArray, .int .u32 s, .slice a2 m cap2, .int .u32 M, .bool true, .bool true, .bool true, undef, undef, undef, undef], defers := [] } : Act) _
  refine wpAnyH_take (i := 12) (v := .agg CL.toArray) rfl (by kernel_rfl) (by kernel_rfl) (by kernel_rfl) (fun _ _ _ h => h) (yieldsIf_load_mid (by rfl) _ _ rfl _ _ rfl CL _ (fun _ h => h.2) u25 rfl n25) hHeld ?_
  change wpAnyH _ _ _ _ _ _ _ ({ tmps := #[.agg CL.toArray, .int .u32 s, .slice a2 m cap2, .pointer (some ⟨w.heap.size, 0, none⟩), undef, undef, .bool false, .bool true, .pointer (some ⟨wx.heap.size, 0, none⟩), .bool true, .slice a2 len2 cap2, .slice a2 m cap2, .agg CL.toArray, .bool true, .bool true, .int .u32 s, .slice a2 m cap2, .int .u32 M, .agg CL.toArray, .int .u32 s, .slice a2 m cap2, .int .u32 M, .bool true, .bool true, .bool true, .agg CL.toArray, undef, undef, undef], defers := [] } : Act) _
  refine wpAnyH_take (i := 13) (v := .agg CL.toArray) rfl (by kernel_rfl) (by kernel_rfl) (by kernel_rfl) (fun _ _ _ h => h) (yieldsIf_load_mid (by rfl) _ _ rfl _ _ rfl CL _ (fun _ h => h.1) u24 rfl n24) hHeld ?_
  change wpAnyH _ _ _ _ _ _ _ ({ tmps := #[.agg CL.toArray, .int .u32 s, .slice a2 m cap2, .pointer (some ⟨w.heap.size, 0, none⟩), undef, undef, .bool false, .bool true, .pointer (some ⟨wx.heap.size, 0, none⟩), .bool true, .slice a2 len2 cap2, .slice a2 m cap2, .agg CL.toArray, .bool true, .bool true, .int .u32 s, .slice a2 m cap2, .int .u32 M, .agg CL.toArray, .int .u32 s, .slice a2 m cap2, .int .u32 M, .bool true, .bool true, .bool true, .agg CL.toArray, .agg CL.toArray, undef, undef], defers := [] } : Act) _
  refine wpAnyH_take (i := 14) (v := .bool true) rfl (by kernel_rfl) (by kernel_rfl) (by kernel_rfl) (fun _ _ _ h => h) (yieldsIf_eql (by rfl) _ _ _ rfl CL.toArray rfl rfl HE.out) hHeld ?_
  change wpAnyH _ _ _ _ _ _ _ ({ tmps := #[.agg CL.toArray, .int .u32 s, .slice a2 m cap2, .pointer (some ⟨w.heap.size, 0, none⟩), undef, undef, .bool false, .bool true, .pointer (some ⟨wx.heap.size, 0, none⟩), .bool true, .slice a2 len2 cap2, .slice a2 m cap2, .agg CL.toArray, .bool true, .bool true, .int .u32 s, .slice a2 m cap2, .int .u32 M, .agg CL.toArray, .int .u32 s, .slice a2 m cap2, .int .u32 M, .bool true, .bool true, .bool true, .agg CL.toArray, .agg CL.toArray, .bool true, undef], defers := [] } : Act) _
  refine wpAnyH_take (i := 15) (v := .bool true) rfl (by kernel_rfl) (by kernel_rfl) (by kernel_rfl) (fun _ _ _ h => h) (Or.inl ⟨by rfl, by intro w hSw; go_simp⟩) hHeld ?_
  change wpAnyH _ _ _ _ _ _ _ ({ tmps := #[.agg CL.toArray, .int .u32 s, .slice a2 m cap2, .pointer (some ⟨w.heap.size, 0, none⟩), undef, undef, .bool false, .bool true, .pointer (some ⟨wx.heap.size, 0, none⟩), .bool true, .slice a2 len2 cap2, .slice a2 m cap2, .agg CL.toArray, .bool true, .bool true, .int .u32 s, .slice a2 m cap2, .int .u32 M, .agg CL.toArray, .int .u32 s, .slice a2 m cap2, .int .u32 M, .bool true, .bool true, .bool true, .agg CL.toArray, .agg CL.toArray, .bool true, .bool true], defers := [] } : Act) _
  refine wpAnyH_take (i := 16) (v := .bool true) rfl (by kernel_rfl) (by kernel_rfl) (by kernel_rfl) (fun _ _ _ h => h) (Or.inl ⟨by rfl, by intro w hSw; go_simp⟩) hHeld ?_
  change wpAnyH _ _ _ _ _ _ _ ({ tmps := #[.agg CL.toArray, .int .u32 s, .slice a2 m cap2, .pointer (some ⟨w.heap.size, 0, none⟩), undef, undef, .bool true, .bool true, .pointer (some ⟨wx.heap.size, 0, none⟩), .bool true, .slice a2 len2 cap2, .slice a2 m cap2, .agg CL.toArray, .bool true, .bool true, .int .u32 s, .slice a2 m cap2, .int .u32 M, .agg CL.toArray, .int .u32 s, .slice a2 m cap2, .int .u32 M, .bool true, .bool true, .bool true, .agg CL.toArray, .agg CL.toArray, .bool true, .bool true], defers := [] } : Act) _
  refine wpAnyH_done (by kernel_rfl) ?_ _
  refine NoPanic.normal ?_
  change Exit.then _ _ Exit.normal ({ tmps := #[.agg CL.toArray, .int .u32 s, .slice a2 m cap2, .pointer (some ⟨w.heap.size, 0, none⟩), undef, undef, .bool true, .bool true, .pointer (some ⟨wx.heap.size, 0, none⟩), .bool true, .slice a2 len2 cap2, .slice a2 m cap2, .agg CL.toArray, .bool true, .bool true, .int .u32 s, .slice a2 m cap2, .int .u32 M, .agg CL.toArray, .int .u32 s, .slice a2 m cap2, .int .u32 M, .bool true, .bool true, .bool true, .agg CL.toArray, .agg CL.toArray, .bool true, .bool true], defers := [] } : Act) _
  go_wp2
  go_ret
  exact ⟨rfl, HB.out⟩
end Go.Proofs.Ythdmmachaplmjaa

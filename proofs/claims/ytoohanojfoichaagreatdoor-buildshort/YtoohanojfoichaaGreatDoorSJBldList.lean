/- What the proof stands on: BldList, BldKind, BldWrite, with what the proof reaches of it. -/
import Derived.Test.YtoohanojfoichaaGreatDoorSJBldPure
import Derived.Test.YtoohanojfoichaaGreatDoorSDirPut
import Derived.Test.YtoohanojfoichaaGreatDoorSJInoKind
import Derived.Deep.RegionHeld3

/- Layer 14: the list of a directory: what is in it is written, one behind the other. -/
namespace Go.Proofs.YtoohanojfoichaaGreatDoor
set_option linter.unusedVariables false
open Go.RowKit Go.Maps
open Lz (g)
open Crc (ent)
open Frm Mtr Tre Nam Tab Bld

theorem kids_eq {L : List (Nv × Nod)} (h : CanP L) {k : List ByteArray} {K : List Nat} (hK : IsKids L k K) : K = kidsN (nds L) k := by
  refine Stb.srd_one Nat.lt_irrefl (fun _ _ _ => Nat.lt_trans) K _ (kids_rise h hK) ?_ fun x => ?_
  · unfold kidsN; exact List.Pairwise.filter _ List.pairwise_lt_range
  · rw [hK.mem, kidsN_mem, nds_length]
    refine and_congr_right fun hx => ?_
    unfold kid kidN
    rw [gn_nds L x hx]
/-- What write answers, of what is being written. -/
def WAns (x : Cx) (W0 : World) (O : Nat → Prop) (q : Ws × Nat) (w : World) (e : Ending) (w' : World) : Prop :=
  e = .returned (.int .i64 (q.2 : Int)) ∧ ∃ O', RS x W0 w' O' q.1 ∧ Fr O w w' ∧ Gr O O' w
/-- The contract of write, for nodes that are deep enough. -/
def WrC (x : Cx) (W0 : World) (f : Nat) : Prop := ∀ (i : Nat) (O : Nat → Prop) (s : Ws) (w : World), i < x.n → RS x W0 w O s → WI (nds x.L) s → 17 ≤ f + (gn (nds x.L) i).names.length →
  Calls Tryz.prog 17 #[.pointer (some ⟨x.rp, 0, none⟩), .int .i64 (i : Int)] w (WAns x W0 O (wr (nds x.L) x.own x.fm f i s) w)
/-- An entry is appended to a row of the call's own, in a region that draws. -/
theorem step_append_ent (w : World) {ops : Array Oper} {o : Oper} {a : Act} {K : Act → World → Prop} {Q : Exit → Act → World → Prop} {E : Prop} (hgd : o.guard = none) (s x : Operand)
    (ho : o.op = .call { callee := .builtin .append, args := #[s, x], argTypes := #[196, 196] })
    (base : Nat) (vo : Option Addr) (n vc : Nat) (xs : List Dir.Ent) (hs : a.eval s = .slice vo n vc) (hown : w.ownsRow base 199 3 (.slice vo n vc) n (Dir.evs xs))
    (gb : Nat) (e : Dir.Ent) (hx : a.eval x = .slice (some ⟨gb, 0, none⟩) 1 1) (hb : w.heap[gb]? = some (.cells (Dir.ev e) 199 (0, 0))) (hbd : n ≤ 100000000) (hbase : base ≤ w.heap.size)
    (h : ∀ g cap w', w'.ownsRow base 199 3 (.slice (some ⟨g, 0, none⟩) (n + 1) cap) (n + 1) (Dir.evs (xs ++ [e])) → w.grownBy w' (Value.slice vo n vc).ownBlock → ((Value.slice vo n vc).ownBlock = some g ∨ g = w.heap.size) → g < w'.heap.size → K (a.put o.dst (.slice (some ⟨g, 0, none⟩) (n + 1) cap)) w') :
    if Region.wanted o (yielded ops a.tmps) = true then Oper.wp Tryz.prog o a w K Q else E := by
  obtain ⟨i0, hi, hz0, hz1, hz2⟩ := info_parts Dir.infoRecs
  refine step_append_lies (P := Tryz.prog) (w := w) hgd s x 196 ho base 199 i0 (.agg (Dir.ev Dir.z0)) 3 32 Tryz.underlying196 hi hz0 hz1 hz2 rfl (by decide) (.slice vo n vc) n (Dir.evs xs) hs hown ⟨gb, 0, none⟩ 1 1 (Dir.evs [e]) hx (by rw [Dir.evs_length]; rfl) ?_ ?_ (by omega) (by unfold maxLen; omega) (by omega) hbase w.heap.size rfl ?_
  · intro j u hu
    have hj : j < 3 := by have := (List.getElem?_eq_some_iff.1 hu).1; rw [Dir.evs_length] at this; exact this
    rw [Addr.add_lit, Nat.zero_add]
    simp only [World.cell?, hb]
    have e1 : Dir.evs [e] = (Dir.ev e).toList := by simp [Dir.evs]
    rw [e1] at hu
    rw [← hu]
    simp
  · intro u hu
    have e1 : Dir.evs [e] = (Dir.ev e).toList := by simp [Dir.evs]
    rw [e1] at hu
    simp [Dir.ev] at hu
    rcases hu with rfl | rfl | rfl <;> rfl
  · intro g cap w' h1 h2 h3 h4
    rw [← Dir.evs_append] at h1
    exact h g cap w' h1 h2 h3 h4
/-- What was written of the first j nodes within a directory, and their entries. -/
def kz (x : Cx) (f m : Nat) (s : Ws) (K : List Nat) (j : Nat) : Ws × List Dir.Ent := kids (nds x.L) (wr (nds x.L) x.own x.fm f) m (K.take j) (s, [])
theorem kz_succ (x : Cx) (f m : Nat) (s : Ws) (K : List Nat) (j : Nat) (h : j < K.length) :
    kz x f m s K (j + 1) = ((wr (nds x.L) x.own x.fm f (fn0 K j) (kz x f m s K j).1).1, (kz x f m s K j).2 ++ [ent1 (nds x.L) m (fn0 K j) (wr (nds x.L) x.own x.fm f (fn0 K j) (kz x f m s K j).1).2]) := by
  have e : fn0 K j = K[j] := by simp [fn0, h]
  unfold kz
  rw [List.take_succ_eq_append_getElem h, kids_append, ← e]
  rfl
/-- The records and a row of entries, since the world w1. -/
structure LJ (x : Cx) (W0 : World) (O : Nat → Prop) (w1 w : World) (O' : Nat → Prop) (Z : Ws × List Dir.Ent) (eo : Option Addr) (j ec : Nat) : Prop where
  rs : RS x W0 w O' Z.1
  fr : Fr O w1 w
  gr : Gr O O' w1
  ow : w.ownsRow w1.heap.size 199 3 (.slice eo j ec) j (Dir.evs Z.2)
  no : ∀ k, (Value.slice eo j ec).ownBlock = some k → ¬ O' k
  st : ∀ k, Stc x W0 k → k < w1.heap.size
section
variable {x : Cx} {W0 w1 w w' : World} {O O' : Nat → Prop} {Z : Ws × List Dir.Ent} {eo : Option Addr} {j ec : Nat}
theorem LJ.below (h : LJ x W0 O w1 w O' Z eo j ec) (hb : Below w.heap.size w w') : LJ x W0 O w1 w' O' Z eo j ec :=
  ⟨h.rs.below hb, h.fr.then (Fr.of_below hb), h.gr, owns_below h.ow hb, h.no, h.st⟩
/-- A node is written. -/
theorem LJ.wrote (h : LJ x W0 O w1 w O' Z eo j ec) {q : Ws × Nat} {e : Ending} (hw : WAns x W0 O' q w e w') : e = .returned (.int .i64 (q.2 : Int)) ∧ ∃ O'', LJ x W0 O w1 w' O'' (q.1, Z.2) eo j ec ∧ Fr O' w w' := by
  obtain ⟨h1, O'', k1, k2, k3⟩ := hw
  refine ⟨h1, O'', ⟨k1, h.fr.gr h.gr k2, h.gr.trans k3 h.fr.size, owns_fr h.ow k2 h.no, fun k hk ho => ?_, h.st⟩, k2⟩
  rcases k3 k ho with ho | ho
  · exact h.no k hk ho
  · have := (h.ow.lt k hk).2; omega
/-- An entry is appended. -/
theorem LJ.put (h : LJ x W0 O w1 w O' Z eo j ec) {g cap : Nat} {E : Dir.Ent} (ho : w'.ownsRow w1.heap.size 199 3 (.slice (some ⟨g, 0, none⟩) (j + 1) cap) (j + 1) (Dir.evs (Z.2 ++ [E]))) (hg : w.grownBy w' (Value.slice eo j ec).ownBlock) (hl : (Value.slice eo j ec).ownBlock = some g ∨ g = w.heap.size) :
    LJ x W0 O w1 w' O' (Z.1, Z.2 ++ [E]) (some ⟨g, 0, none⟩) (j + 1) cap := by
  have hf : Fr (fun k => (Value.slice eo j ec).ownBlock = some k) w w' := Fr.of_grown hg (fun k hk => hk)
  have hn : ∀ k, (Value.slice eo j ec).ownBlock = some k → w1.heap.size ≤ k := fun k hk => (h.ow.lt k hk).1
  refine ⟨h.rs.fr hf (fun k hk => ⟨fun hs => ?_, h.no k hk⟩), h.fr.trans hf (fun i hi hx => by have := hn i hx; omega), h.gr, ho, fun k hk hx => ?_, h.st⟩
  · have h1 := hn k hk
    have := h.st k hs
    omega
  · have hk' : k = g := by simpa [Value.ownBlock] using hk.symm
    subst hk'
    rcases hl with hl | hl
    · exact h.no _ hl hx
    · have := h.rs.olt hx; omega
end
/-- What list answers. -/
def LAns (x : Cx) (W0 : World) (O : Nat → Prop) (Z : Ws × List Dir.Ent) (w : World) (e : Ending) (w' : World) : Prop :=
  ∃ ao c O', e = .returned (.slice ao (dp Z.2).length c) ∧ Bs w' ao (dp Z.2).length (dp Z.2) ∧ (ao = none → c = 0) ∧ (∀ a, ao = some a → ¬ O' a.block) ∧ RS x W0 w' O' Z.1 ∧ Fr O w w' ∧ Gr O O' w
set_option maxRecDepth 100000 in
set_option maxHeartbeats 1000000 in
theorem list_any (x : Cx) (W0 : World) (f : Nat) (O : Nat → Prop) (s : Ws) (b : Option Addr) (m d : Nat) (k : List ByteArray) (w : World) (hs : Sta x W0) (hW : WrC x W0 f) (h : RS x W0 w O s) (hI : WI (nds x.L) s) (hf : 16 ≤ f + m) (hr : Rs w b m k) (hmd : m ≤ d) (hdm : d ≤ 9223372036854775807) (Z : Ws × List Dir.Ent) (hZ : Z = kids (nds x.L) (wr (nds x.L) x.own x.fm f) m (kidsN (nds x.L) k) (s, [])) :
    Calls Tryz.prog 91 #[.pointer (some ⟨x.rp, 0, none⟩), .slice b m d] w (LAns x W0 O Z w) := by
  have hml := hr.1
  have hns := hs.ns.below h.bel
  have HK := hide (Kids_new x.a x.n x.c x.L b m d k w hns hs.nc hs.ncm hr (by omega) (fun p hp => by have := hs.deep p.2 (List.mem_map.2 ⟨p, hp, rfl⟩); omega) (by have := hs.n40; omega))
  have c0 : w.cell? ⟨x.rp, 0, none⟩ = some (.slice x.a x.n x.c) := by simp [World.cell?, h.rc, rcv]
  have H := hide h
  have HS := hide hs
  have HW := hide hW
  have HI := hide hI
  have HZ := hide hZ
  have hn40 := hs.n40
  clear hns h hs hW hI hr hZ
  go_enter Tryz.func91, Tryz.ntmps91
  go_wp2_with fail
  refine HK.out.mono ?_
  rintro r w1 ⟨ao, kn, kc, K, rfl, hKi, hk60, hkc, hkm, hIK, hb1, hnew⟩
  have HKe := hide (kids_eq HS.out.can hIK)
  have hKl := hKi.1
  have HKi := hide hKi
  have HMem := hide hIK.mem
  have HB1 := hide hb1
  have HJ0 : Hid (LJ x W0 O w1 w1 O (kz x f m s K 0) none 0 0) := ⟨H.out.below hb1, Fr.refl _ _, Gr.refl _ _, World.ownsRow_nil _ _ _ _, fun k hk => by simp [Value.ownBlock] at hk, fun k hk => (H.out.below hb1).slt hk⟩
  have HNew : Hid (0 < kn → ∀ p, ao = some p → ¬ O p.block) := fun h0 p hp ho => by have := hnew h0 p hp; have := H.out.olt ho; omega
  clear hKi hIK hb1 hnew HK c0
  go_wp2_with fail
  go_loopw [5, 7, 8, 18] (fun r5 _ _ r18 wr => ∃ (j : Nat) (O' : Nat → Prop) (eo : Option Addr) (ec : Nat), r18 = .int .i64 j ∧ j ≤ kn ∧ r5 = .slice eo j ec ∧ LJ x W0 O w1 wr O' (kz x f m s K j) eo j ec ∧ WI (nds x.L) (kz x f m s K j).1) (fun _ _ _ r18 _ => kn - (intOf r18).toNat)
  case atStart => exact ⟨0, O, none, 0, rfl, Nat.zero_le _, rfl, HJ0.out, HI.out⟩
  case round =>
    obtain ⟨j, O2, eo, ec, rfl, hjn, rfl, hJ, hWI⟩ := hrel
    by_cases hlt : j < kn
    · have hd : decide ((j : Int) < kn) = true := by simpa using hlt
      obtain ⟨q, hq⟩ : ∃ q, q = fn0 K j := ⟨_, rfl⟩
      have hqK : q ∈ K := by rw [hq]; simp [fn0, show j < K.length by omega]
      obtain ⟨hqL, hqk⟩ := (HMem.out q).1 hqK
      have hqn : q < x.n := by have := HS.out.ns.1; omega
      have hg := gn_nds x.L q hqL
      have hqk2 : (gn (nds x.L) q).names.length = m + 1 := by
        unfold kid at hqk; simp only [Bool.and_eq_true, decide_eq_true_eq] at hqk; rw [hg, hqk.1, hml]
      obtain ⟨kb, hka, hkb, hkcell⟩ : ∃ kb, ao = some ⟨kb, 0, none⟩ ∧ kb < w1.heap.size ∧ ∀ i, i < kn → w1.cell? ⟨kb, i, none⟩ = some (.int .i64 (fn0 K i : Int)) := by
        rcases HKi.out.2 with h0 | h0
        · omega
        · exact h0
      subst hka
      have ck : wr.cell? ⟨kb, j, none⟩ = some (.int .i64 (q : Int)) := by rw [hq]; exact (hJ.fr.cell (q := ⟨kb, j, none⟩) hkb (HNew.out (by omega) ⟨kb, 0, none⟩ rfl)).trans (hkcell j hlt)
      have cr0 : wr.cell? ⟨x.rp, 0, none⟩ = some (.slice x.a x.n x.c) := by simp [World.cell?, hJ.rs.rc, rcv]
      have hNs := HS.out.ns.below hJ.rs.bel
      have hRp := hNs.rep q hqn
      obtain ⟨nb, noff, hxa, hnb, hcells⟩ := hNs.at (by omega)
      obtain ⟨d0, d1, d2, d3, d4, d5, d6, d7, d8, d9⟩ := hcells q hqn
      have hZs := kz_succ x f m s K j (by omega)
      rw [← hq] at hZs
      have HZs := hide hZs
      have HWI2 := hide (wr_inv (own := x.own) (fm := x.fm) HS.out.uno f q (kz x f m s K j).1 (by rw [nds_length]; exact hqL) hWI)
      have HJ := hide hJ
      have HWI := hide hWI
      rw [hxa]
      rw [hxa] at cr0
      rw [hg] at hqk2
      obtain ⟨v, hv⟩ : ∃ v, v = (gl x.L q).1 := ⟨_, rfl⟩
      obtain ⟨nd, hnd⟩ : ∃ nd, nd = (gl x.L q).2 := ⟨_, rfl⟩
      rw [← hv] at d0 d1 d2 d3 d4 d5 d6 d7 d8 d9 hRp
      rw [← hnd] at hRp hqk2 hg
      have hNm := hRp.names
      have hnl := hNm.1
      have hN0 := (HS.out.ns.rep q hqn).names
      rw [← hv, ← hnd] at hN0
      obtain ⟨sb, so, hsa, hsb, hsc⟩ := hN0.at (by omega)
      have cs : wr.cell? ⟨sb, so + m, none⟩ = some (.string (gs nd.names m)) := (hJ.rs.bel.cell (p := ⟨sb, so + m, none⟩) hsb).trans (hsc m (by omega))
      have i1 : (m : Int) < (v.nn : Int) := by omega
      have i2 : (q : Int) < (x.n : Int) := by omega
      have HG := hide hg
      have hkd := hRp.kind
      have HSa := hide hsa
      clear hsa
      clear hJ hWI hZs hcells hNs hRp hNm hN0 hsc hkcell hv hnd hg hq hqK hqk hnl
      go_wp2_with fail
      obtain ⟨wB, hwB⟩ : ∃ wB, wB = wr.alloc (.cells v.cells 48) := ⟨_, rfl⟩
      have eB : wr.alloc (Obj.cells #[.slice v.na v.nn v.nc, .int .i64 v.ino, .int .i64 v.kind, .int .i64 v.mode, .int .i64 v.uid, .int .i64 v.gid, .slice v.da v.dn v.dc, .string v.tg, .slice v.xa v.xn v.xc, .bool v.op] 48) = wB := by rw [hwB]; rfl
      rw [eB]
      have hbB : Below wr.heap.size wr wB := by rw [hwB]; exact (Below.refl _ wr).alloc (Nat.le_refl _) _
      have hJB := HJ.out.below hbB
      have hp8 : wB.heap[wr.heap.size]? = some (.cells v.cells 48 (0, 0)) := by rw [hwB]; exact heap_alloc_new _ _
      have hpl := heap_lt hp8
      obtain ⟨p8, hp⟩ : ∃ p8, p8 = wr.heap.size := ⟨_, rfl⟩
      rw [← hp] at hp8 hpl ⊢
      obtain ⟨qq, hqq⟩ : ∃ qq, qq = Bld.wr (nds x.L) x.own x.fm f q (kz x f m s K j).1 := ⟨_, rfl⟩
      obtain ⟨nmx, hnm⟩ : ∃ nmx, nmx = gs nd.names m := ⟨_, rfl⟩
      rw [← hnm] at cs
      have HE : Hid (kz x f m s K (j + 1) = (qq.1, (kz x f m s K j).2 ++ [⟨nmx, v.kind, (qq.2 : Int)⟩])) := by
        show _ = _
        rw [HZs.out, ← hqq]
        unfold ent1
        rw [HG.out, ← hnm, hkd]
      have HLk : Hid (∀ wX, Fr (fun k => O2 k ∨ (Value.slice eo j ec).ownBlock = some k) wB wX → wX.cell? ⟨p8, 0, none⟩ = some (.slice (some ⟨sb, so, none⟩) v.nn v.nc) ∧ wX.cell? ⟨p8, 2, none⟩ = some (.int .i64 v.kind) ∧ wX.cell? ⟨sb, so + m, none⟩ = some (.string nmx)) := fun wX hX => by
        have n1 : ¬ (O2 p8 ∨ (Value.slice eo j ec).ownBlock = some p8) := by
          rintro (ho | ho)
          · have := HJ.out.rs.olt ho; omega
          · have := (HJ.out.ow.lt _ ho).2; omega
        have hsS : Stc x W0 sb := .inl hsb
        have n2 : ¬ (O2 sb ∨ (Value.slice eo j ec).ownBlock = some sb) := by
          rintro (ho | ho)
          · exact HJ.out.rs.off ho hsS
          · have := (HJ.out.ow.lt _ ho).1; have := HJ.out.st sb hsS; omega
        have hsl : sb < wB.heap.size := Nat.lt_of_lt_of_le (HJ.out.rs.slt hsS) hbB.size
        refine ⟨(hX.cell (q := ⟨p8, 0, none⟩) hpl n1).trans ?_, (hX.cell (q := ⟨p8, 2, none⟩) hpl n1).trans ?_, (hX.cell (q := ⟨sb, so + m, none⟩) hsl n2).trans ((hbB.cell (p := ⟨sb, so + m, none⟩) (HJ.out.rs.slt hsS)).trans cs)⟩
        · rw [← HSa.out]; simp [World.cell?, hp8, Nv.cells]
        · simp [World.cell?, hp8, Nv.cells]
      have HJD : Hid (LJ x W0 O w1 wB.drew O2 (kz x f m s K j) eo j ec) := hJB.below (show Below _ wB wB.drew from drewN_below wB 1)
      have HWr := hide (HW.out q O2 (kz x f m s K j).1 wB.drew hqn HJD.out.rs HWI.out (by rw [HG.out, hqk2]; omega))
      rw [← hqq] at HWr HWI2
      have HF0 : Hid (Fr (fun k => O2 k ∨ (Value.slice eo j ec).ownBlock = some k) wB wB.drew) := (Fr.refl _ _).drew
      generalize kz x f m s K j = Zj at *
      clear hwB eB hbB hJB hp8 hqq hnm HZs HG hkd cs d0 d1 d2 d3 d4 d5 d6 d7 d8 d9 HJ HWI ck cr0 hp
      go_region_held3 (fun wX => wX.cell? ⟨p8, 0, none⟩ = some (.slice (some ⟨sb, so, none⟩) v.nn v.nc) ∧ wX.cell? ⟨p8, 2, none⟩ = some (.int .i64 v.kind) ∧ wX.cell? ⟨sb, so + m, none⟩ = some (.string nmx)) (exact HLk.out _ (by first | exact HF0.out | exact HF4.out | exact HF2.out.alloc _ | exact HF2.out))
        ((first
          | (go_at_call 17; refine HWr.out.mono ?_; rintro r w2 hA; obtain ⟨rfl, O3, hJ2, hF2⟩ := HJD.out.wrote hA; have HJ2 := hide hJ2; have HF2 : Hid (Fr (fun k => O2 k ∨ (Value.slice eo j ec).ownBlock = some k) wB w2) := (hF2.mono (fun i _ hi => .inl hi)).undrew; clear hA hJ2 hF2)
          | (have hJ3 := HJ2.out.below ((Below.refl _ w2).alloc (Nat.le_refl _) (.cells (Dir.ev ⟨nmx, v.kind, (qq.2 : Int)⟩) 199)); refine step_append_ent (w2.alloc (.cells (Dir.ev ⟨nmx, v.kind, (qq.2 : Int)⟩) 199)) (by rfl) (.tmp 29) (.tmp 42) (by rfl) w1.heap.size eo j ec Zj.2 (by rfl) hJ3.ow w2.heap.size ⟨nmx, v.kind, (qq.2 : Int)⟩ (by rfl) (heap_alloc_new _ _) (by omega) (hJ3.fr.size) ?_; intro g4 c4 w4 h1 h2 h3 h4; have HJ4 := hide (hJ3.put h1 h2 h3); have HF4 : Hid (Fr (fun k => O2 k ∨ (Value.slice eo j ec).ownBlock = some k) wB w4) := (HF2.out.alloc _).then (Fr.of_grown h2 (fun k hk => .inr hk)); clear hJ3 h1 h2 h3 h4)))
      rename_i hHd
      clear hHd HF0 HF2 HF4 HLk HWr HJD HJ2
      have hw1 : IntKind.i64.wrap ((j : Int) + 1) = (j : Int) + 1 := by rw [IntKind.wrap_i64]; omega
      go_wp2
      refine ⟨⟨j + 1, O3, some ⟨g4, 0, none⟩, c4, by go_num, by omega, rfl, ?_, ?_⟩, by simp [intOf]; omega⟩
      · rw [HE.out]; exact HJ4.out
      · rw [HE.out]; exact HWI2.out
    · obtain rfl : j = kn := by omega
      have hd : decide ((j : Int) < (j : Int)) = false := by simp
      have eZ : kz x f m s K j = Z := by
        rw [HZ.out, ← HKe.out]; unfold kz; rw [List.take_of_length_le (by omega)]
      rw [eZ] at hJ
      obtain ⟨p1, p2, p3⟩ := Dir.cap_own hJ.ow
      have HP := hide (dPut_any eo j ec Z.2 wr (Dir.es_of_owns hJ.ow) p1 p2 (by omega))
      have HJ := hide hJ
      clear hJ hWI eZ HZ HKe HKi
      go_wp2_with fail
      refine HP.out.mono ?_
      rintro r w2 (⟨hm, ao2, c2, rfl, hN⟩ | ⟨hm, rfl, hb2⟩)
      · have HX : Hid (LAns x W0 O Z w (.returned (.slice ao2 (Dir.putB Z.2).length c2)) w2) := by
          have e : dp Z.2 = Dir.putB Z.2 := by unfold dp; rw [if_pos hm]
          refine ⟨ao2, c2, O2, by rw [e], by rw [e]; exact hN.bs, hN.nil, fun a ha ho => ?_, HJ.out.rs.below hN.bel, ((Fr.of_below HB1.out).then HJ.out.fr).then (Fr.of_below hN.bel), fun k hk => (HJ.out.gr k hk).imp id (fun h => Nat.le_trans HB1.out.size h)⟩
          have := (hN.own a ha).1; have := HJ.out.rs.olt ho; omega
        clear hN HP HJ
        generalize (Dir.putB Z.2).length = pl at *
        go_wp2
        go_ret
        exact HX.out
      · have HX : Hid (LAns x W0 O Z w (.returned (.slice none 0 0)) w2) := by
          have e : dp Z.2 = [] := by unfold dp; rw [if_neg (by rw [hm]; simp)]
          refine ⟨none, 0, O2, by rw [e]; rfl, by rw [e]; exact ⟨rfl, fun i => by simp [g], .inl rfl⟩, fun _ => rfl, fun a ha ho => by simp at ha, HJ.out.rs.below hb2, ((Fr.of_below HB1.out).then HJ.out.fr).then (Fr.of_below hb2), fun k hk => (HJ.out.gr k hk).imp id (fun h => Nat.le_trans HB1.out.size h)⟩
        clear HP HJ hb2
        go_wp2
        go_ret
        exact HX.out
end Go.Proofs.YtoohanojfoichaaGreatDoor

/- Layer 14: a record's own part by its kind. -/
namespace Go.Proofs.YtoohanojfoichaaGreatDoor
set_option linter.unusedVariables false
open Go.RowKit Go.Maps
open Lz (g)
open Crc (ent)
open Frm Mtr Tre Nam Tab Bld

/-- What ofKind answers. -/
def KAns (x : Cx) (W0 : World) (O : Nat → Prop) (q : Ws × Ino.Rec) (w : World) (e : Ending) (w' : World) : Prop :=
  e = .returned (.agg (Ino.iv q.2)) ∧ ∃ O', RS x W0 w' O' q.1 ∧ Fr O w w' ∧ Gr O O' w
set_option maxRecDepth 100000 in
set_option maxHeartbeats 1000000 in
theorem ofKind_any (x : Cx) (W0 : World) (f i : Nat) (O : Nat → Prop) (s : Ws) (w : World) (hs : Sta x W0) (hW : WrC x W0 f) (h : RS x W0 w O s) (hI : WI (nds x.L) s) (hi : i < x.n) (hf : 16 ≤ f + (gn (nds x.L) i).names.length) (v : Nv) (hv : v = (gl x.L i).1) :
    Calls Tryz.prog 45 #[.pointer (some ⟨x.rp, 0, none⟩), .agg v.cells] w (KAns x W0 O (okd (nds x.L) x.fm (wr (nds x.L) x.own x.fm f) i s) w) := by
  have hiL : i < x.L.length := by have := hs.ns.1; omega
  have hg := gn_nds x.L i hiL
  have hRp := (hs.ns.below h.bel).rep i hi
  rw [← hv, ← hg] at hRp
  have hkd := hRp.kind
  have HSt : Hid (∀ k, Stc x W0 k → k < w.heap.size) := fun k hk => h.slt hk
  by_cases hk1 : v.kind = 1
  · have e1 : (v.kind == 1) = true := by simpa using hk1
    obtain ⟨Z, hZ⟩ : ∃ Z, Z = kids (nds x.L) (wr (nds x.L) x.own x.fm f) (gn (nds x.L) i).names.length (kidsN (nds x.L) (gn (nds x.L) i).names) (s, []) := ⟨_, rfl⟩
    have HQ : Hid (okd (nds x.L) x.fm (wr (nds x.L) x.own x.fm f) i s = ({ Z.1 with D := Z.1.D ++ dp Z.2 }, { rec0 with start := (rfn Z.1.D : Nat), size := ((dp Z.2).length : Nat) })) := by
      show _ = _
      unfold okd; rw [if_pos (by rw [hkd]; exact hk1), ← hZ]
    rw [HQ.out]
    have hWI : WI (nds x.L) Z.1 := by
      rw [hZ]
      exact kids_inv _ _ (fun j hj s hs' => wr_inv hs.uno f j s (kidsN_mem.1 hj).1 hs') hI
    have hDl : (dp Z.2).length ≤ sm (nw (nds x.L)) (nds x.L).length := by
      have h2 := dp_len (nds x.L) (wr (nds x.L) x.own x.fm f) (gn (nds x.L) i).names.length (kidsN (nds x.L) (gn (nds x.L) i).names) (s, []) (fun j hj => (kidN_iff.1 (kidsN_mem.1 hj).2).1)
      rw [Dir.putB_nil, List.length_nil, Nat.zero_add, ← hZ] at h2
      have h3 := dw_le hs.nod (i := i) (by rw [nds_length]; exact hiL)
      rw [dw, if_pos (by rw [hkd]; exact hk1), ← h2] at h3
      unfold dp
      split
      · exact h3
      · exact Nat.zero_le _
    have hDb := hWI.bD hs.nod
    have hsm := hs.names_sum
    have hnm := hRp.names.1
    obtain ⟨b0, b1, b2⟩ := two_boxes w (.cells v.cells 48) (.cells (Ino.iv rec0) 98)
    obtain ⟨wA, hwA⟩ : ∃ wA, wA = (w.alloc (.cells v.cells 48)).alloc (.cells (Ino.iv rec0) 98) := ⟨_, rfl⟩
    rw [← hwA] at b0 b1 b2
    have hA := h.below b0
    have HL := hide (list_any x W0 f O s v.na v.nn v.nc (gn (nds x.L) i).names wA hs hW hA hI (by rw [← hnm]; exact hf) (hRp.names.below b0) hRp.nc hRp.ncm Z (by rw [← hnm]; exact hZ))
    have hlt := heap_lt b2
    have HN : Hid (¬ O (w.heap.size + 1)) := fun ho => by have := h.olt ho; omega
    have HA := hide hA
    have H0 := hide b0
    have HS := hide hs
    have hDb2 : Z.1.D.length ≤ 100000 := by omega
    have hDl2 : (dp Z.2).length ≤ 100000 := by omega
    unfold Nv.cells
    clear hs hW h hI hf hRp hkd hg hv hZ hWI hDl hDb hsm hnm hA b0 hk1
    go_enter Tryz.func45, Tryz.ntmps45
    go_wp2_with fail
    have eA : (w.alloc (Obj.cells #[.slice v.na v.nn v.nc, .int .i64 v.ino, .int .i64 v.kind, .int .i64 v.mode, .int .i64 v.uid, .int .i64 v.gid, .slice v.da v.dn v.dc, .string v.tg, .slice v.xa v.xn v.xc, .bool v.op] 48)).alloc (Obj.cells #[.int .i64 0, .int .i64 0, .int .i64 0, .int .i64 0, .int .i64 0, .int .i64 0, .int .i64 0, .int .i64 0, .int .i64 0, .int .i64 0, .string ⟨#[]⟩] 98) = wA := by rw [hwA]; rfl
    rw [eA]
    clear eA hwA
    refine HL.out.mono ?_
    rintro r w2 ⟨ao, c, O2, rfl, k1, k2, k3, k4, k5, k6⟩
    have hp2 : w2.heap[w.heap.size + 1]? = some (.cells (Ino.iv rec0) 98 (0, 0)) := (k5.block _ hlt HN.out).trans b2
    have hN2 : ¬ O2 (w.heap.size + 1) := fun ho => (k6 _ ho).elim HN.out (fun hx => by omega)
    have c4 : w2.cell? ⟨x.rp, 4, none⟩ = some (.pointer (some ⟨x.pd, 0, none⟩)) := by simp [World.cell?, k4.rc, rcv]
    obtain ⟨oi, od, ox, rfl, hR⟩ := k4
    obtain ⟨ht1, ht2⟩ := hR.tb HS.out
    have HAdd := hide (Add_any x.pd x.tb (dp Z.2).length c od ao ent Z.1.D (dp Z.2) w2 hR.wd ht1 ht2 (fun ho => (hR.dd _ ho).1 (.inl HS.out.tlt)) small_ent k1 k2 hDb2 hDl2)
    rw [rf_rfn] at HAdd
    have HR := hide hR
    have HF := hide ((Fr.of_below H0.out).then k5)
    have HG : Hid (Gr O (Ou x oi od ox) w) := fun k hk => (k6 k hk).imp id (fun h => Nat.le_trans H0.out.size h)
    generalize rfn Z.1.D = rx at *
    generalize (dp Z.2).length = dl at *
    clear hR k1 k2 k3 k5 k6 ht1 ht2 HL HA b1 b2 hlt
    go_wp2_with fail
    refine HAdd.out.mono ?_
    rintro r w3 ⟨rfl, od', hW3, hF3, hG3⟩
    have hp3 : w3.heap[w.heap.size + 1]? = some (.cells (Ino.iv rec0) 98 (0, 0)) := (hF3.block _ (heap_lt hp2) (fun ho => hN2 (.inr (.inl ho)))).trans hp2
    have HX : Hid (RS x W0 w3 (Ou x oi od' ox) { Z.1 with D := Z.1.D ++ dp Z.2 } ∧ Fr O w w3 ∧ Gr O (Ou x oi od' ox) w ∧ ¬ Ou x oi od' ox (w.heap.size + 1)) := by
      refine ⟨⟨oi, od', ox, rfl, HR.out.addD hW3 hF3 hG3⟩, HF.out.gr HG.out (hF3.mono (fun i _ hi => .inr (.inl hi))), HG.out.trans (Ou.gd hG3) HF.out.size, fun ho => ?_⟩
      rcases Ou.gd hG3 _ ho with ho | ho
      · exact hN2 ho
      · have := heap_lt hp2; omega
    clear hW3 hF3 hG3 HAdd HR HF HG c4 hp2 hN2
    go_wp2_with (refine wpList_store_row rfl _ _ _ rfl (w.heap.size + 1) (Ino.iv { rec0 with start := (rx : Int), size := (dl : Int) }) rfl (by rfl) 98 (Ino.iv rec0) hp3 Ino.infoRec rfl (by simp [Ino.iv, Value.oneCell']) ?_)
    refine bodyPost_ret (results_cell_row rfl _ _ (w.heap.size + 1) 98 (Ino.iv { rec0 with start := (rx : Int), size := (dl : Int) }) (0, 0) _ rfl (setRow_heap _ _ _ _ _ _ hp3) Tryz.underlying98 rfl Ino.infoRec) rfl ?_
    have fs : Fr (One (w.heap.size + 1)) w3 (w3.setRow (w.heap.size + 1) (Ino.iv { rec0 with start := (rx : Int), size := (dl : Int) })) := setRow_fr (Fr.refl _ _) _ _ (fun _ => rfl)
    obtain ⟨x1, x2, x3, x4⟩ := HX.out
    refine ⟨rfl, _, x1.fr fs (fun k (hk : k = w.heap.size + 1) => ⟨fun hs => ?_, by rw [hk]; exact x4⟩), x2.trans fs (fun i hi (hk : i = w.heap.size + 1) => by omega), x3⟩
    have := HSt.out k hs
    omega
  · by_cases hk2 : v.kind = 2
    · have e1 : (v.kind == 1) = false := by simpa using hk1
      have e2 : (v.kind == 2) = true := by simpa using hk2
      obtain ⟨fl, hfl⟩ : ∃ fl, fl = flOf (nds x.L) x.fm i := ⟨_, rfl⟩
      have hdl := hRp.data.1
      have HQ : Hid (okd (nds x.L) x.fm (wr (nds x.L) x.own x.fm f) i s = (s, { rec0 with start := (fl.start : Nat), size := (v.dn : Nat), frag := (fl.frag : Nat), off := (fl.off : Nat) })) := by
        show _ = _
        unfold okd; rw [if_neg (by rw [hkd]; exact hk1), if_pos (by rw [hkd]; exact hk2), ← hfl, hdl]
      rw [HQ.out]
      obtain ⟨b0, b1, b2⟩ := two_boxes w (.cells v.cells 48) (.cells (Ino.iv rec0) 98)
      obtain ⟨wA, hwA⟩ : ∃ wA, wA = (w.alloc (.cells v.cells 48)).alloc (.cells (Ino.iv rec0) 98) := ⟨_, rfl⟩
      rw [← hwA] at b0 b1 b2
      have hA := h.below b0
      have HLk : Hid (∀ wX, Below wA.heap.size wA wX → wX.cell? ⟨x.rp, 1, none⟩ = some (.map (some x.fb)) ∧ wX.cell? ⟨w.heap.size, 1, none⟩ = some (.int .i64 v.ino) ∧ (Instr.lookup 50 (.map (some x.fb)) (.int .i64 v.ino) false).run Tryz.prog wX = .ok (.agg #[.int .i64 (fl.start : Int), .int .i64 (fl.frag : Int), .int .i64 (fl.off : Int)]) wX) := fun wX hX => by
        have hAX := hA.below hX
        refine ⟨by simp [World.cell?, hAX.rc, rcv], ?_, ?_⟩
        · have hp := (hX.block _ (heap_lt b1)).trans b1
          simp [World.cell?, hp, Nv.cells]
        · have hm : MpF wX x.fb x.fm := hs.fm.same (hAX.bel.block _ hs.fm.lt)
          have := hm.get (x := v.ino) (by have := hs.ino i hi; rw [hRp.ino] at this; exact this)
          rw [this, hfl]
          unfold flOf flv
          rw [hRp.ino]
      have H := hide h
      have H0 := hide b0
      have HB1 := hide b1
      have HB2 := hide b2
      unfold Nv.cells
      clear hs hW h hI hf hRp hkd hg hv hk1 hk2 hA b0 b1 b2 hfl hdl
      go_enter Tryz.func45, Tryz.ntmps45
      go_wp2_with fail
      have eA : (w.alloc (Obj.cells #[.slice v.na v.nn v.nc, .int .i64 v.ino, .int .i64 v.kind, .int .i64 v.mode, .int .i64 v.uid, .int .i64 v.gid, .slice v.da v.dn v.dc, .string v.tg, .slice v.xa v.xn v.xc, .bool v.op] 48)).alloc (Obj.cells #[.int .i64 0, .int .i64 0, .int .i64 0, .int .i64 0, .int .i64 0, .int .i64 0, .int .i64 0, .int .i64 0, .int .i64 0, .int .i64 0, .string ⟨#[]⟩] 98) = wA := by rw [hwA]; rfl
      rw [eA]
      clear eA hwA
      have HD0 : Hid (Below wA.heap.size wA wA.drew) := drewN_below wA 1
      have HD1 : Hid (∀ o, Below wA.heap.size wA (wA.alloc o).drew) := fun o => ((Below.refl _ wA).alloc (Nat.le_refl _) o).trans (drewN_below _ 1)
      go_region_held3 (fun wX => wX.cell? ⟨x.rp, 1, none⟩ = some (.map (some x.fb)) ∧ wX.cell? ⟨w.heap.size, 1, none⟩ = some (.int .i64 v.ino) ∧ (Instr.lookup 50 (.map (some x.fb)) (.int .i64 v.ino) false).run Tryz.prog wX = .ok (.agg #[.int .i64 (fl.start : Int), .int .i64 (fl.frag : Int), .int .i64 (fl.off : Int)]) wX) (exact HLk.out _ (by first | exact HD0.out | exact HD1.out _)) (fail)
      all_goals (
        rename_i hHd
        clear hHd HLk HD0
        obtain ⟨wD, hwD⟩ : ∃ wD, wD = (wA.alloc (Obj.cells #[.int .i64 (fl.start : Int), .int .i64 (fl.frag : Int), .int .i64 (fl.off : Int)] 85)).drew := ⟨_, rfl⟩
        have hbD : Below wA.heap.size wA wD := by rw [hwD]; exact HD1.out _
        have hp6 : wD.heap[wA.heap.size]? = some (.cells #[.int .i64 (fl.start : Int), .int .i64 (fl.frag : Int), .int .i64 (fl.off : Int)] 85 (0, 0)) := by rw [hwD]; exact heap_alloc_new _ _
        rw [← hwD]
        have hp3 := (hbD.block _ (heap_lt HB1.out)).trans HB1.out
        have hp4 := (hbD.block _ (heap_lt HB2.out)).trans HB2.out
        have q0 : wD.cell? ⟨wA.heap.size, 0, none⟩ = some (.int .i64 (fl.start : Int)) := by simp [World.cell?, hp6]
        have q1 : wD.cell? ⟨wA.heap.size, 1, none⟩ = some (.int .i64 (fl.frag : Int)) := by simp [World.cell?, hp6]
        have q2 : wD.cell? ⟨wA.heap.size, 2, none⟩ = some (.int .i64 (fl.off : Int)) := by simp [World.cell?, hp6]
        have q6 : wD.cell? ⟨w.heap.size, 6, none⟩ = some (.slice v.da v.dn v.dc) := by simp [World.cell?, hp3, Nv.cells]
        have HBD := hide hbD
        clear hwD hbD hp6 hp3 HD1
        go_wp2_with (refine wpList_store_row rfl _ _ _ rfl (w.heap.size + 1) (Ino.iv { rec0 with start := (fl.start : Int), size := (v.dn : Int), frag := (fl.frag : Int), off := (fl.off : Int) }) rfl (by rfl) 98 (Ino.iv rec0) hp4 Ino.infoRec rfl (by simp [Ino.iv, Value.oneCell']) ?_)
        refine bodyPost_ret (results_cell_row rfl _ _ (w.heap.size + 1) 98 (Ino.iv { rec0 with start := (fl.start : Int), size := (v.dn : Int), frag := (fl.frag : Int), off := (fl.off : Int) }) (0, 0) _ rfl (setRow_heap _ _ _ _ _ _ hp4) Tryz.underlying98 rfl Ino.infoRec) rfl ?_
        have b2 : Below w.heap.size w wD := H0.out.trans (HBD.out.mono H0.out.size)
        have fs : Fr (One (w.heap.size + 1)) wD (wD.setRow (w.heap.size + 1) (Ino.iv { rec0 with start := (fl.start : Int), size := (v.dn : Int), frag := (fl.frag : Int), off := (fl.off : Int) })) := setRow_fr (Fr.refl _ _) _ _ (fun _ => rfl)
        refine ⟨rfl, O, (H.out.below b2).fr fs (fun k (hk : k = w.heap.size + 1) => ⟨fun hs => by have := HSt.out k hs; omega, fun ho => by have := H.out.olt ho; omega⟩), (Fr.of_below b2).trans fs (fun i hi (hk : i = w.heap.size + 1) => by omega), Gr.refl _ _⟩)
    · have e1 : (v.kind == 1) = false := by simpa using hk1
      have e2 : (v.kind == 2) = false := by simpa using hk2
      have HQ : Hid (okd (nds x.L) x.fm (wr (nds x.L) x.own x.fm f) i s = (s, { rec0 with target := v.tg })) := by
        show _ = _
        unfold okd; rw [if_neg (by rw [hkd]; exact hk1), if_neg (by rw [hkd]; exact hk2), hRp.tg]
      rw [HQ.out]
      have H := hide h
      unfold Nv.cells
      clear hs hW h hI hf hRp hkd hg hv
      go_enter Tryz.func45, Tryz.ntmps45
      go_wp2
      refine bodyPost_ret (results_cell_row rfl _ _ (w.heap.size + 1) 98 (Ino.iv { rec0 with target := v.tg }) (0, 0) _ rfl (heap_new (by simp)) Tryz.underlying98 rfl Ino.infoRec) rfl ?_
      refine ⟨rfl, O, H.out.below (two_boxes w _ _).1, Fr.of_below (two_boxes w _ _).1, Gr.refl _ _⟩
end Go.Proofs.YtoohanojfoichaaGreatDoor

/- Layer 14: a node is written, all that is in it ahead: write, by induction on how deep it is. -/
namespace Go.Proofs.YtoohanojfoichaaGreatDoor
set_option linter.unusedVariables false
open Go.RowKit Go.Maps
open Lz (g)
open Crc (ent)
open Frm Mtr Tre Nam Tab Bld

/-- How many nodes are one, by the nodes alone. -/
theorem lks_lnk {L : List (Nv × Nod)} (h : ∀ p ∈ L, p.2.ino = p.1.ino) (i : Nat) (hi : i < L.length) : lks L (i : Int) = ((lnk (nds L) i : Nat) : Int) := by
  have e1 : (gn (nds L) i).ino = (gl L i).1.ino := by rw [gn_nds L i hi]; exact h _ (gl_mem L i hi)
  unfold lks
  rw [if_pos ⟨by omega, by omega⟩, Int.toNat_natCast]
  unfold lnk cn
  rw [List.take_of_length_le (Nat.le_refl _), e1]
  unfold nds
  rw [List.filter_map, List.length_map]
  congr 2
  refine List.filter_congr fun p hp => ?_
  simp only [Function.comp]
  rw [h p hp]
/-- inode.Put, of a record that may be or not. -/
theorem iPut_ip (s : Ino.Rec) (w : World) : Calls Tryz.prog 49 #[.agg (Ino.iv s)] w fun e w' => ∃ ao c er, e = .returned (.tuple #[.slice ao (ip s).length c, .int .i64 er]) ∧ New w w' ao (ip s).length c (ip s) := by
  refine (iPut_any s w).mono ?_
  rintro e w' (⟨hm, ao, c, rfl, hN⟩ | ⟨hm, rfl, hb⟩)
  · have e : ip s = Ino.putB s := by unfold ip; rw [if_pos hm]
    rw [e]
    exact ⟨ao, c, 0, rfl, hN⟩
  · have e : ip s = [] := by unfold ip; rw [if_neg (by rw [hm]; simp)]
    rw [e]
    exact ⟨none, 0, 1, rfl, ⟨rfl, fun i => by simp [g], .inl rfl⟩, Nat.le_refl _, by omega, fun _ => rfl, hb, fun a h => by simp at h⟩
/-- Many orders, one way on. -/
theorem joinB {F G : World → Prop} {T : Prop} (h : (∀ x, F x → G x) → T) (h2 : ∀ x, F x → G x) : T := h h2
set_option maxRecDepth 100000 in
set_option maxHeartbeats 2000000 in
theorem write_step (x : Cx) (W0 : World) (f i : Nat) (O : Nat → Prop) (s : Ws) (w : World) (hs : Sta x W0) (hW : WrC x W0 f) (hi : i < x.n) (h : RS x W0 w O s) (hI : WI (nds x.L) s) (hf : 16 ≤ f + (gn (nds x.L) i).names.length) :
    Calls Tryz.prog 17 #[.pointer (some ⟨x.rp, 0, none⟩), .int .i64 (i : Int)] w (WAns x W0 O (wr (nds x.L) x.own x.fm (f + 1) i s) w) := by
  have hiL : i < x.L.length := by have := hs.ns.1; omega
  have hg := gn_nds x.L i hiL
  have hNs := hs.ns.below h.bel
  have hRp := hNs.rep i hi
  obtain ⟨v, hv⟩ : ∃ v, v = (gl x.L i).1 := ⟨_, rfl⟩
  obtain ⟨nb, noff, hxa, hnb, hcells⟩ := hNs.at (by omega)
  have hNA := hcells i hi
  rw [← hv, ← hg] at hRp
  rw [← hv] at hNA
  obtain ⟨d0, d1, d2, d3, d4, d5, d6, d7, d8, d9⟩ := hNA
  have cr0 : w.cell? ⟨x.rp, 0, none⟩ = some (.slice (some ⟨nb, noff, none⟩) x.n x.c) := by rw [← hxa]; simp [World.cell?, h.rc, rcv]
  have hwf : (Lit.int .i64 v.ino).wf = true := by have := hs.ino i hi; rw [hRp.ino] at this; exact this
  obtain ⟨wB, hwB⟩ : ∃ wB, wB = w.alloc (.cells v.cells 48) := ⟨_, rfl⟩
  have hbB : Below w.heap.size w wB := by rw [hwB]; exact (Below.refl _ w).alloc (Nat.le_refl _) _
  have hp5 : wB.heap[w.heap.size]? = some (.cells v.cells 48 (0, 0)) := by rw [hwB]; exact heap_alloc_new _ _
  have hB := h.below hbB
  have hlk : ∀ q, (Instr.lookup 59 (.map (some x.mr)) (.int .i64 v.ino) true).run Tryz.prog (wB.drewN q) = .ok (.tuple #[.int .i64 (((lkR (nds x.L) s.R v.ino).getD 0 : Nat) : Int), .bool (lkR (nds x.L) s.R v.ino).isSome]) (wB.drewN q) := fun q => by
    have hBq := hB.below (drewN_below wB q)
    obtain ⟨oi, od, ox, rfl, hR⟩ := hBq
    exact hR.mr.look hwf
  have q7 : wB.cell? ⟨x.rp, 7, none⟩ = some (.map (some x.mr)) := by simp [World.cell?, hB.rc, rcv]
  have q1 : wB.cell? ⟨w.heap.size, 1, none⟩ = some (.int .i64 v.ino) := by simp [World.cell?, hp5, Nv.cells]
  have i2 : (i : Int) < (x.n : Int) := by omega
  cases hlo : lkR (nds x.L) s.R v.ino with
  | some r =>
    rw [hlo] at hlk
    rw [wr_some (by rw [hRp.ino]; exact hlo)]
    have H := hide h
    have HB := hide hB
    have HbB := hide hbB
    clear hs hW h hI hf hNs hRp hcells hg hv hlo hbB hB hp5 hwf hxa
    go_enter Tryz.func17, Tryz.ntmps17
    go_wp2_with fail
    have eB : w.alloc (Obj.cells #[.slice v.na v.nn v.nc, .int .i64 v.ino, .int .i64 v.kind, .int .i64 v.mode, .int .i64 v.uid, .int .i64 v.gid, .slice v.da v.dn v.dc, .string v.tg, .slice v.xa v.xn v.xc, .bool v.op] 48) = wB := by rw [hwB]; rfl
    rw [eB]
    clear eB hwB d0 d1 d2 d3 d4 d5 d6 d7 d8 d9 cr0
    go_quiet (fail)
    go_wp2
    go_ret
    exact ⟨rfl, O, HB.out.below (drewN_below wB nq), (Fr.of_below HbB.out).drewN nq, Gr.refl _ _⟩
  | none =>
    rw [hlo] at hlk
    rw [wr_none (by rw [hRp.ino]; exact hlo)]
    have hloI : lkR (nds x.L) s.R (gn (nds x.L) i).ino = none := by rw [hRp.ino]; exact hlo
    have hil : i < (nds x.L).length := by rw [nds_length]; exact hiL
    obtain ⟨hWJ, hWt⟩ := okd_inv (l := nds x.L) (fm := x.fm) (wr := wr (nds x.L) x.own x.fm f) (i := i) (s := s) (fun j hj s hs' => wr_inv hs.uno f j s (kidsN_mem.1 hj).1 hs') hI
    have hnone := okd_none (own := x.own) (fm := x.fm) (f := f) hs.uno hil hloI
    have hK := fun w' hC => ofKind_any x W0 f i O s w' hs hW hC hI hi hf v hv
    obtain ⟨Q, hQ⟩ : ∃ Q, Q = okd (nds x.L) x.fm (wr (nds x.L) x.own x.fm f) i s := ⟨_, rfl⟩
    rw [← hQ] at hWJ hWt hnone hK ⊢
    obtain ⟨s2, rk, rm, ru, rg, rl, rx, rst, rsz, rfg, rof, rtg⟩ := Q
    have hWJ : WJ (nds x.L) s2 (dw (nds x.L) i) := hWJ
    have hX : s2.X.length ≤ 100000 := by have := hWJ.bX; have := hs.x_sum; omega
    have hIl : s2.I.length ≤ 100000 := by have := hWJ.bI; have := hs.i_sum; omega
    have hA : s2.A.length ≤ 10000 := by have := hWJ.bA; have := hs.n40; rw [nds_length, hs.ns.1] at *; omega
    have hR2 : s2.R.length ≤ 10000 := by have := hWJ.bR; have := hs.n40; rw [nds_length, hs.ns.1] at *; omega
    have hAv := hWJ.Av
    have hmu := hs.mem (gn (nds x.L) i) (by rw [gn_lt _ _ hil]; exact List.getElem_mem hil)
    rw [hRp.uid, hRp.gid] at hmu
    have HK : Hid (∀ w', RS x W0 w' O s → Calls Tryz.prog 45 #[.pointer (some ⟨x.rp, 0, none⟩), .agg v.cells] w' (KAns x W0 O (s2, ⟨rk, rm, ru, rg, rl, rx, rst, rsz, rfg, rof, rtg⟩) w')) := hK
    unfold KAns Ino.iv Nv.cells at HK
    have H := hide h
    have HB := hide hB
    have HbB := hide hbB
    have HP5 := hide hp5
    have HS := hide hs
    have HRp := hide hRp
    have HAv := hide hAv
    have HNo := hide hnone
    have HGn := hide hg
    have HVe := hide hv
    have HTg : Hid (rtg.size ≤ 200) := by
      have h1 : rtg.size ≤ (gn (nds x.L) i).target.size := hWt
      have h2 := (may_parts (hs.may (gn (nds x.L) i) (by rw [gn_lt _ _ hil]; exact List.getElem_mem hil))).1
      exact Nat.le_trans h1 h2
    clear hs hW h hI hf hNs hRp hcells hg hv hlo hbB hB hp5 hxa hWJ hWt hK hQ hloI hnone hAv
    go_enter Tryz.func17, Tryz.ntmps17
    go_wp2_with fail
    have eB : w.alloc (Obj.cells #[.slice v.na v.nn v.nc, .int .i64 v.ino, .int .i64 v.kind, .int .i64 v.mode, .int .i64 v.uid, .int .i64 v.gid, .slice v.da v.dn v.dc, .string v.tg, .slice v.xa v.xn v.xc, .bool v.op] 48) = wB := by rw [hwB]; rfl
    rw [eB]
    clear eB hwB d0 d1 d2 d3 d4 d5 d6 d7 d8 d9 cr0
    go_quiet (fail)
    have HC := hide (HB.out.below (drewN_below wB nq))
    have HbC : Hid (Below w.heap.size w (wB.drewN nq)) := below_drewN HbB.out nq
    have hp5 : (wB.drewN nq).heap[w.heap.size]? = some (.cells v.cells 48 (0, 0)) := HP5.out
    generalize wB.drewN nq = wC at *
    obtain ⟨_, e0, e1, e2, e3, e4, e5, e6, e7, e8, e9⟩ := (show Bk wC w.heap.size v from hp5).box
    have HKc := hide (HK.out wC HC.out)
    have HP5c := hide hp5
    clear hlk q7 q1 HP5 HB HbB HK hp5
    go_wp2_with fail
    refine HKc.out.mono ?_
    rintro r w2 ⟨rfl, O2, k1, k2, k3⟩
    have hsz2 : w.heap.size < w2.heap.size := Nat.lt_of_lt_of_le (heap_lt HP5c.out) k2.size
    have hN5 : ¬ O w.heap.size := fun ho => by have := H.out.olt ho; omega
    have hN5' : ¬ O2 w.heap.size := fun ho => (k3 _ ho).elim hN5 (fun hx => by have := heap_lt HP5c.out; omega)
    have HP52 : Hid (w2.heap[w.heap.size]? = some (.cells v.cells 48 (0, 0))) := (k2.block _ (heap_lt HP5c.out) hN5).trans HP5c.out
    have HR2 := hide k1
    have HF2 := hide ((Fr.of_below HbC.out).then k2)
    have HG2 : Hid (Gr O O2 w) := fun k hk => (k3 k hk).imp id (fun h => Nat.le_trans HbC.out.size h)
    have HN5 := hide hN5'
    clear k1 k2 k3 HKc HP5c HbC HC e0 e1 e2 e3 e4 e5 e6 e7 e8 e9 hN5 hN5'
    go_wp2_with fail
    obtain ⟨_, e0, e1, e2, e3, e4, e5, e6, e7, e8, e9⟩ := (show Bk w2 w.heap.size v from HP52.out).box
    clear e0 e1 e6 e7 e8 e9
    go_region
    have HOw : Hid (∀ o : Obj, RS x W0 (w2.alloc o) O2 s2) := fun o => HR2.out.below ((Below.refl _ w2).alloc (Nat.le_refl _) o)
    have HOw2 : Hid (∀ (o : Obj) (y : Int), y ∈ x.own → Calls Tryz.prog 46 #[.pointer (some ⟨x.rp, 0, none⟩), .int .i64 y] (w2.alloc o).drew.drew fun e w' => e = .returned (.int .i64 ((x.own.idxOf y : Nat) : Int)) ∧ w' = (w2.alloc o).drew.drew) := fun o y hy => owner_any x W0 O2 s2 y _ HS.out ((HOw.out o).below (drewN_below _ 2)) hy
    go_wp2_with fail
    apply joinB (F := fun wX => wX.heap[w2.heap.size]? = some (.cells #[.int .i64 v.kind, .int .i64 v.mode, .int .i64 ((x.own.idxOf v.uid : Nat) : Int), .int .i64 ((x.own.idxOf v.gid : Nat) : Int), .int .i64 rl, .int .i64 rx, .int .i64 rst, .int .i64 rsz, .int .i64 rfg, .int .i64 rof, .string rtg] 98 (0, 0)) ∧ Below w2.heap.size w2 wX)
    · intro hall
      have HAll := hide hall
      clear hall
      go_region_with (go_at_call 46; refine (HOw2.out _ _ (by first | exact hmu.1 | exact hmu.2)).mono ?_; rintro e w' ⟨rfl, rfl⟩)
      all_goals exact HAll.out _ ⟨heap_alloc_new _ _, below_drewN ((Below.refl _ w2).alloc (Nat.le_refl _) _) 2⟩
    · rintro w4 ⟨hp8, hb4⟩
      have hR4 := HR2.out.below hb4
      have hLk := Links_any x.a x.n x.c x.L (i : Int) w4 (HS.out.ns.below hR4.bel) HS.out.nc HS.out.ncm
      rw [lks_lnk (fun p hp => (HS.out.ns.2.1 p hp).ino) i hiL] at hLk
      have HLk := hide hLk
      have q0 : w4.cell? ⟨x.rp, 0, none⟩ = some (.slice x.a x.n x.c) := by simp [World.cell?, hR4.rc, rcv]
      obtain ⟨p8, hp⟩ : ∃ p8, p8 = w2.heap.size := ⟨_, rfl⟩
      have hp52 : w4.heap[w.heap.size]? = some (.cells v.cells 48 (0, 0)) := (hb4.block _ hsz2).trans HP52.out
      have hNp : ¬ O2 p8 := fun ho => by have := HR2.out.olt ho; omega
      have HSt : Hid (∀ k, Stc x W0 k → k < p8) := fun k hk => by have := HR2.out.slt hk; omega
      have hpp : w.heap.size ≠ p8 := by omega
      have HPg : Hid (w.heap.size < p8) := by show _ < _; omega
      rw [← hp] at hp8 ⊢
      have HR4 := hide hR4
      have HP8 := hide hp8
      have HP54 := hide hp52
      have HF4 := hide (HF2.out.then (Fr.of_below hb4))
      obtain ⟨yu, hyu⟩ : ∃ yu, x.own.idxOf v.uid = yu := ⟨_, rfl⟩
      obtain ⟨yg, hyg⟩ : ∃ yg, x.own.idxOf v.gid = yg := ⟨_, rfl⟩
      have HYu := hide hyu
      have HYg := hide hyg
      rw [hyu, hyg] at HP8 hp8 ⊢
      clear hyu hyg
      have hl8 := heap_lt hp8
      clear hLk hR4 hp52 hb4 hp8 HF2 HP52 HR2 HOw HOw2 e2 e3 e4 e5 hsz2 hp
      go_wp2_with fail
      refine HLk.out.mono ?_
      rintro r w5 ⟨rfl, hb5⟩
      have hp8 := (hb5.block _ hl8).trans HP8.out
      have c84 : w5.cell? ⟨p8, 4, none⟩ = some (.int .i64 rl) := by simp [World.cell?, hp8]
      have f84 : w5.frozen? ⟨p8, 4, none⟩ = false := by simp [World.frozen?, hp8]
      obtain ⟨w6, hw6⟩ : ∃ w6, w6 = w5.setCell ⟨p8, 4, none⟩ (.int .i64 ((lnk (nds x.L) i : Nat) : Int)) := ⟨_, rfl⟩
      have hp86 : w6.heap[p8]? = some (.cells #[.int .i64 v.kind, .int .i64 v.mode, .int .i64 (yu : Int), .int .i64 (yg : Int), .int .i64 ((lnk (nds x.L) i : Nat) : Int), .int .i64 rx, .int .i64 rst, .int .i64 rsz, .int .i64 rfg, .int .i64 rof, .string rtg] 98 (0, 0)) := by rw [hw6]; exact heap_setCell_self hp8 _
      have f6 : Fr (One p8) w5 w6 := by rw [hw6]; exact (Fr.refl _ _).set _ (fun _ => rfl)
      have hR6 := (HR4.out.below hb5).fr f6 (fun k (hk : k = p8) => ⟨fun hx => by have := HSt.out k hx; omega, by rw [hk]; exact hNp⟩)
      have hp56 : w6.heap[w.heap.size]? = some (.cells v.cells 48 (0, 0)) := (f6.block _ (Nat.lt_of_lt_of_le (heap_lt HP54.out) hb5.size) hpp).trans ((hb5.block _ (heap_lt HP54.out)).trans HP54.out)
      have HF6 : Hid (Fr (fun k => O k ∨ k = p8) w w6) := ((HF4.out.then (Fr.of_below hb5)).mono (fun i _ hi => .inl hi)).trans f6 (fun i _ hi => .inr hi)
      have hp55 := (hb5.block _ (heap_lt HP54.out)).trans HP54.out
      have e8 : w5.cell? ⟨w.heap.size, 8, none⟩ = some (.slice v.xa v.xn v.xc) := by simp [World.cell?, hp55, Nv.cells]
      have hXr : XsR w6 v.xa v.xn (gn (nds x.L) i).xs := by
        have := ((HS.out.ns.below hR6.bel).rep i hi).xs
        rw [← HGn.out, ← HVe.out] at this
        exact this
      have HXc := hide (xattr_any x W0 O2 s2 v.xa v.xn v.xc (gn (nds x.L) i).xs w6 HS.out hR6 hXr HRp.out.xc HRp.out.xcm HRp.out.xnil hX hA HAv.out)
      obtain ⟨XA, hXA⟩ : ∃ XA, XA = xat s2 (gn (nds x.L) i).xs := ⟨_, rfl⟩
      have HFin : Hid (fin (nds x.L) x.own i (s2, ⟨rk, rm, ru, rg, rl, rx, rst, rsz, rfg, rof, rtg⟩) = ({ XA.1 with I := XA.1.I ++ ip ⟨v.kind, v.mode, (yu : Int), (yg : Int), ((lnk (nds x.L) i : Nat) : Int), (XA.2 : Int), rst, rsz, rfg, rof, rtg⟩, R := XA.1.R ++ [(i, rfn XA.1.I)] }, rfn XA.1.I)) := by
        show _ = _
        unfold fin Bld.hd
        rw [← hXA, HRp.out.kind, HRp.out.mode, HRp.out.uid, HRp.out.gid, HYu.out, HYg.out]
      have hXI : XA.1.I = s2.I ∧ XA.1.R = s2.R := by rw [hXA]; exact ⟨(xat_R _ _).2.1, (xat_R _ _).1⟩
      rw [← hXA] at HXc
      have HP86 := hide hp86
      have HP56 := hide hp56
      have hl86 := heap_lt hp86
      have HXI := hide hXI
      generalize ((lnk (nds x.L) i : Nat) : Int) = yl at *
      clear hp8 hp55 hR6 hp86 hp56 f6 hXr hXA hb5 HLk HR4 HP8 HP54 HF4 HAv hXI
      go_wp2_with fail
      rw [← hw6]
      clear hw6 c84 f84 q0
      refine HXc.out.mono ?_
      rintro r w7 ⟨rfl, O3, k1, k2, k3⟩
      have hp87 := (k2.block _ hl86 hNp).trans HP86.out
      have c85 : w7.cell? ⟨p8, 5, none⟩ = some (.int .i64 rx) := by simp [World.cell?, hp87]
      have f85 : w7.frozen? ⟨p8, 5, none⟩ = false := by simp [World.frozen?, hp87]
      obtain ⟨w8, hw8⟩ : ∃ w8, w8 = w7.setCell ⟨p8, 5, none⟩ (.int .i64 (XA.2 : Int)) := ⟨_, rfl⟩
      have hp88 : w8.heap[p8]? = some (.cells (Ino.iv ⟨v.kind, v.mode, (yu : Int), (yg : Int), yl, (XA.2 : Int), rst, rsz, rfg, rof, rtg⟩) 98 (0, 0)) := by rw [hw8]; exact heap_setCell_self hp87 _
      have f8 : Fr (One p8) w7 w8 := by rw [hw8]; exact (Fr.refl _ _).set _ (fun _ => rfl)
      have hNp3 : ¬ O3 p8 := fun ho => (k3 _ ho).elim hNp (fun hx => by omega)
      have hR8 := k1.fr f8 (fun k (hk : k = p8) => ⟨fun hx => by have := HSt.out k hx; omega, by rw [hk]; exact hNp3⟩)
      have hN52 : ¬ O2 w.heap.size := HN5.out
      have HN53 : Hid (¬ O3 w.heap.size) := fun ho => (k3 _ ho).elim hN52 (fun hx => by have := heap_lt HP56.out; omega)
      have hp58 : w8.heap[w.heap.size]? = some (.cells v.cells 48 (0, 0)) := (f8.block _ (Nat.lt_of_lt_of_le (heap_lt HP56.out) k2.size) hpp).trans ((k2.block _ (heap_lt HP56.out) hN52).trans HP56.out)
      have HG3 : Hid (Gr O O3 w) := fun k hk => by
        rcases k3 k hk with h1 | h1
        · exact HG2.out k h1
        · exact .inr (Nat.le_trans HF6.out.size h1)
      have HF8 : Hid (Fr (fun k => O k ∨ k = p8) w w8) := (HF6.out.trans k2 (fun i hi ho => (HG2.out i ho).imp id (fun hx => by omega))).trans f8 (fun i _ hi => .inr hi)
      have HPut := hide (iPut_ip ⟨v.kind, v.mode, (yu : Int), (yg : Int), yl, (XA.2 : Int), rst, rsz, rfg, rof, rtg⟩ w8)
      have HR8 := hide hR8
      have HP58 := hide hp58
      have hipl := ip_len ⟨v.kind, v.mode, (yu : Int), (yg : Int), yl, (XA.2 : Int), rst, rsz, rfg, rof, rtg⟩
      have hipl2 : (ip ⟨v.kind, v.mode, (yu : Int), (yg : Int), yl, (XA.2 : Int), rst, rsz, rfg, rof, rtg⟩).length ≤ 100000 := by simp only [] at hipl; have := HTg.out; omega
      clear k1 k2 k3 hR8 hp58 hp87 f8 HXc HP86 HP56 HF6 hl86 e8 hipl
      have HP88 := hide hp88
      have HW8 := hide hw8
      clear hp88 hw8
      go_wp2_with (first
        | (rw [← HW8.out]; refine Ino.wpList_load_rec rfl _ rfl p8 rfl 98 (Ino.iv ⟨v.kind, v.mode, (yu : Int), (yg : Int), yl, (XA.2 : Int), rst, rsz, rfg, rof, rtg⟩) (0, 0) HP88.out rfl ?_))
      obtain ⟨B, hB⟩ : ∃ B, B = ip ⟨v.kind, v.mode, (yu : Int), (yg : Int), yl, (XA.2 : Int), rst, rsz, rfg, rof, rtg⟩ := ⟨_, rfl⟩
      rw [← hB] at HPut hipl2 HFin
      clear hB HW8 c85 f85 HP88
      refine HPut.out.mono ?_
      rintro r w9 ⟨ao, c9, er, rfl, hN⟩
      have hR9 := HR8.out.below hN.bel
      have c3 : w9.cell? ⟨x.rp, 3, none⟩ = some (.pointer (some ⟨x.pi, 0, none⟩)) := by simp [World.cell?, hR9.rc, rcv]
      have hp59 := (hN.bel.block _ (heap_lt HP58.out)).trans HP58.out
      obtain ⟨oi, od, ox, rfl, hRst⟩ := hR9
      obtain ⟨ht1, ht2⟩ := hRst.tb HS.out
      have hXIl : XA.1.I.length ≤ 100000 := by rw [HXI.out.1]; exact hIl
      have HAdd := hide (Add_any x.pi x.tb B.length c9 oi ao ent XA.1.I B w9 hRst.wi ht1 ht2 (fun ho => (hRst.di _ ho).1 (.inl HS.out.tlt)) small_ent hN.bs hN.nil hXIl hipl2)
      rw [rf_rfn] at HAdd
      have HRst := hide hRst
      have HP59 := hide hp59
      have HF9 : Hid (Fr O w w9) := (HF8.out.then (Fr.of_below hN.bel)).mono (fun i hi ho => ho.elim id (fun hx => by have := HPg.out; omega))
      have hN59 : ¬ oi w.heap.size := fun ho => HN53.out (.inl ho)
      generalize rfn XA.1.I = rI at *
      generalize B.length = bl at *
      clear hRst ht1 ht2 hp59 hN HPut HR8 HP58 HF8
      go_wp2_with fail
      refine HAdd.out.mono ?_
      rintro r w10 ⟨rfl, oi', hW10, hF10, hG10⟩
      have hR10 := HRst.out.addI hW10 hF10 hG10
      have hp510 := (hF10.block _ (heap_lt HP59.out) hN59).trans HP59.out
      have q7 : w10.cell? ⟨x.rp, 7, none⟩ = some (.map (some x.mr)) := by simp [World.cell?, hR10.rc, rcv]
      have q1 : w10.cell? ⟨w.heap.size, 1, none⟩ = some (.int .i64 v.ino) := by simp [World.cell?, hp510, Nv.cells]
      have hR10d := hR10.below (show Below _ w10 w10.drew from drewN_below w10 1)
      obtain ⟨w11, k1, k2, k3⟩ := hR10d.mr.store (i := i) (by rw [HRp.out.ino]; exact hwf) (by show XA.1.R.length ≤ _; rw [HXI.out.2]; omega) (by show lkR _ XA.1.R _ = none; rw [HXI.out.2]; exact HNo.out) rI
      rw [HRp.out.ino] at k1
      have HX : Hid (RS x W0 w11 (Ou x oi' od ox) { XA.1 with I := XA.1.I ++ B, R := XA.1.R ++ [(i, rI)] } ∧ Fr O w w11 ∧ Gr O (Ou x oi' od ox) w) := by
        refine ⟨⟨oi', od, ox, rfl, hR10d.addR k2 k3⟩, ?_, HG3.out.trans (Ou.gi hG10) HF9.out.size⟩
        have f1 : Fr (Ou x oi od ox) w9 w10 := hF10.mono (fun i _ hi => .inl hi)
        have f2 : Fr (Ou x oi od ox) w10 w11 := (Fr.of_grown k3 (fun k hk => by injection hk with hk; exact .inr (.inr (.inr (.inl hk.symm))))).undrew
        exact HF9.out.gr HG3.out (f1.then f2)
      clear k2 k3 hR10d hR10 hp510 hW10 hF10 hG10 HAdd HRst HP59 HF9
      go_wp2_with fail
      go_region
      go_wp2
      go_ret
      unfold WAns
      rw [HFin.out]
      exact ⟨rfl, _, HX.out⟩
/-- write, however deep a node is. -/
theorem write_any (x : Cx) (W0 : World) (hs : Sta x W0) : ∀ f, WrC x W0 f
  | 0 => fun i O s w hi h hI hf => by
    have hil : i < (nds x.L).length := by rw [nds_length, hs.ns.1]; exact hi
    have := hs.deep (gn (nds x.L) i) (by rw [gn_lt _ _ hil]; exact List.getElem_mem hil)
    omega
  | f + 1 => fun i O s w hi h hI hf => write_step x W0 f i O s w hs (write_any x W0 hs f) hi h hI (by omega)
end Go.Proofs.YtoohanojfoichaaGreatDoor

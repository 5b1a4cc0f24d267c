/- Layer 12: blocks that are read, by the program: take and Read. -/
import Derived.Test.YtifmikdknifcoaaDatRefRead
import Derived.Laws.CopyOwn
namespace Go.Proofs.Ytifmikdknifcoaa
set_option linter.unusedVariables false
open Go.RowKit Go.Maps
open Lz (g)
open Crc (ent more)
open Frm Mtr Dat

/-- Bytes as a block's cells. -/
def blc (zs : List Int) : Array Value := (bv zs).toArray
theorem blc_size {zs : List Int} (h : zs.length = 128) : (blc zs).size = 128 := by simp [blc, bv, h]
theorem blc_one (zs : List Int) : (blc zs).all (·.oneCell') = true := by
  rw [Array.all_eq_true]
  intro i hi
  exact bv_one zs _ (by simp [blc])
theorem zero128 : (Try.prog.info? 73).map (fun i => (i.zero, i.size)) = some (some (.agg (Array.replicate 128 (.int .u8 0))), 128) := by kernel_rfl
theorem info128 : (Try.prog.info? 73).map (·.size) = some 128 := by kernel_rfl
theorem load_blk {w : World} {b t : Nat} {cs : Array Value} {fr : Nat × Nat} (h : w.heap[b]? = some (.cells cs t fr)) (hs : cs.size = 128) : (loadVar 73 ⟨b, 0, none⟩).run Try.prog w = .ok (.agg cs) w :=
  run_loadVar_row w b t 73 cs fr _ h Try.underlying73 rfl (by rw [hs]; exact info128)
theorem Dat.results_c3 {fn : Func} {p u v : Tmp} {ty : TypeId} (h : fn.results = #[.cell p ty, .tmp u, .tmp v]) (tmps : Array Value) (w : World) (g : Nat) (cs : Array Value)
    (hp : tmps.getD p undef = .pointer (some ⟨g, 0, none⟩)) (hr : (loadVar ty ⟨g, 0, none⟩).run Try.prog w = .ok (.agg cs) w) :
    (results fn tmps).run Try.prog w = .ok (.tuple #[.agg cs, tmps.getD u undef, tmps.getD v undef]) w := by
  have hp' : tmps[p]?.getD undef = .pointer (some ⟨g, 0, none⟩) := by simpa using hp
  simp [results, h, hp', asAddr, hr]
theorem zeros_blc : Array.replicate 128 (Value.int .u8 0) = blc (List.replicate 128 0) := by unfold blc bv; rw [List.map_replicate, List.toArray_replicate]
theorem src_at {w : World} {ao : Option Addr} {n : Nat} {zs : List Int} (h : Bs w ao n zs) (hn : n ≠ 0) : ∃ ad, ao = some ad ∧ ∀ j v, (bv zs)[j]? = some v → w.cell? (ad.add j) = some v := by
  obtain ⟨hz, hby, h0 | ⟨b, off, rfl, hb, hs⟩⟩ := h
  · omega
  · refine ⟨_, rfl, ?_⟩
    have := news_seg hs n
    rw [List.take_of_length_le (by omega)] at this
    exact this
/-- Bytes copied into a block of noughts: all of it, or nothing. -/
theorem copy_blk {w0 w : World} {g B n c : Nat} {bo : Option Addr} {b : List Int} (hz : w.heap[g]? = some (.cells (Array.replicate 128 (.int .u8 0)) 73 (0, 0))) (hB : Bs w bo n b) (hn : n = 0 ∨ n = 128) (hb : Below B w0 w) (hg : B ≤ g) :
    ∃ w', (Builtin.copy_ #[34, 34] 3 #[.slice (some ⟨g, 0, none⟩) 128 128, .slice bo n c]).run Try.prog w = .ok (.int .i64 n) w' ∧ w'.heap[g]? = some (.cells (blc (if n = 0 then List.replicate 128 0 else b)) 73 (0, 0)) ∧ Below B w0 w' := by
  have hinfo : (Try.prog.info? 5).map (·.size) = some 1 := by kernel_rfl
  rcases hn with rfl | rfl
  · refine ⟨w, run_copy_none w _ _ _ _ _ _ _ _ _ _ Try.underlying34 hinfo (by rfl), ?_, hb⟩
    rw [if_pos rfl, ← zeros_blc]; exact hz
  · obtain ⟨ad, rfl, hsrc⟩ := src_at hB (by omega)
    have hl : (bv b).length = 128 := by rw [bv_length]; exact hB.1
    have h := run_copy_row (P := Try.prog) w 34 34 3 5 g 0 128 128 ad 128 c (Array.replicate 128 (.int .u8 0)) 73 (bv b) Try.underlying34 hinfo hz (by rw [hl]; rfl) hsrc (by rw [hl]; simp) (bv_one b)
    have e : ((Array.replicate 128 (Value.int .u8 0)).toList.take 0 ++ bv b ++ (Array.replicate 128 (Value.int .u8 0)).toList.drop (0 + (bv b).length)).toArray = blc b := by
      rw [hl, List.take_zero, List.nil_append, List.drop_eq_nil_of_le (by simp), List.append_nil]; rfl
    rw [e, hl] at h
    exact ⟨_, h, by rw [if_neg (by omega)]; exact setRow_heap w g _ _ _ _ hz, below_setRow hb hg _⟩
/-- What take answers. -/
def DTakeA (o : Option (List Int × Int)) (r : Ending) : Prop := r = .returned (.tuple #[.agg (blc (o.getD (List.replicate 128 0, 0)).1), .int .i64 (o.getD (List.replicate 128 0, 0)).2, .bool o.isSome])
set_option maxRecDepth 100000 in
set_option maxHeartbeats 4000000 in
theorem dTakeB_any (tb len cap : Nat) (at' : Int) (T : Nat → Nat) (ao : Option Addr) (zs : List Int) (w : World) (hT : Tb w tb T) (htb : tb < w.heap.size) (hS : Small T) (hB : Bs w ao len zs) (hc : len ≤ cap) (hnil : ao = none → cap = 0) (hl : len ≤ 1000000) (hcm : cap ≤ 9223372036854775807) (ha : In64 at') :
    Calls Try.prog 32 #[.pointer (some ⟨tb, 0, none⟩), .slice ao len cap, .int .i64 at'] w fun r w' => DTakeA (tkB T zs at') r ∧ Below w.heap.size w w' := by
  obtain ⟨hz, hi'⟩ := zero_of_info zero128
  obtain ⟨W1, hW1⟩ : ∃ W1, W1 = w.alloc (.cells (Array.replicate 128 (.int .u8 0)) 73) := ⟨_, rfl⟩
  have b1 : Below w.heap.size w W1 := by rw [hW1]; exact below_one _ _
  have z1 : W1.heap[w.heap.size]? = some (.cells (Array.replicate 128 (.int .u8 0)) 73 (0, 0)) := by rw [hW1]; exact heap_new rfl
  have HK := hide (Take_any tb len cap at' T ao zs W1 (hT.below b1 htb) (Nat.lt_of_lt_of_le htb b1.size) hS (hB.below b1) hc hnil hl hcm ha)
  unfold Takes at HK
  have HW1 := hide hW1
  have HTk : Hid (tkB T zs at' = if (take T zs at').2.2 ≠ 0 ∨ ((take T zs at').1.length ≠ 0 ∧ (take T zs at').1.length ≠ 128) then none else some (if (take T zs at').1.length = 0 then List.replicate 128 0 else (take T zs at').1, (take T zs at').2.1)) := rfl
  generalize take T zs at' = tk at *
  obtain ⟨b, nx, er⟩ := tk
  simp only [] at HK HTk
  obtain ⟨bl, hbl⟩ : ∃ k, b.length = k := ⟨_, rfl⟩
  rw [hbl] at HK HTk
  clear hT hB hnil hW1
  go_enter Try.func32, Try.ntmps32
  go_wp2_with fail
  rw [← HW1.out]
  refine HK.out.mono ?_
  rintro r w2 ⟨bo, bc, rfl, hF⟩
  have z2 := (hF.bel.block _ (heap_lt z1)).trans z1
  have HB2 := hide (b1.trans (hF.bel.mono b1.size))
  have HF := hide hF
  clear hF HK z1 b1 HW1
  have hs0 : (Array.replicate 128 (Value.int .u8 0)).size = 128 := by simp
  have ho0 : (Array.replicate 128 (Value.int .u8 0)).all (·.oneCell') = true := by rw [zeros_blc]; exact blc_one _
  have HBad : Hid (tkB T zs at' = none → DTakeA (tkB T zs at') (.returned (.tuple #[.agg (Array.replicate 128 (.int .u8 0)), .int .i64 0, .bool false]))) := fun h => by
    rw [h, zeros_blc]; rfl
  by_cases her : er = 0
  · subst her
    by_cases hbad : bl ≠ 0 ∧ bl ≠ 128
    · have hb0' : ((bl : Int) != 0) = true := by simp; omega
      have hb8' : ((bl : Int) != 128) = true := by simp; omega
      have hno : tkB T zs at' = none := by rw [HTk.out, if_pos (.inr hbad)]
      have HA := hide (HBad.out hno)
      have HR2 := hide (setRow_heap w2 w.heap.size (Array.replicate 128 (Value.int .u8 0)) (Array.replicate 128 (Value.int .u8 0)) 73 (0, 0) z2)
      have HB3 := hide (below_setRow HB2.out (Nat.le_refl w.heap.size) (Array.replicate 128 (Value.int .u8 0)))
      clear HBad HTk HF hno
      go_wp2_with (first
        | refine wpList_store_row rfl _ _ _ rfl w.heap.size (Array.replicate 128 (.int .u8 0)) rfl rfl 73 (Array.replicate 128 (.int .u8 0)) z2 (by rw [hs0]; exact info128) (by rw [hs0]) ho0 ?_)
      refine bodyPost_ret (Dat.results_c3 (p := 6) (u := 7) (v := 8) rfl _ _ w.heap.size (Array.replicate 128 (.int .u8 0)) rfl (load_blk HR2.out hs0)) rfl ?_
      exact ⟨HA.out, HB3.out⟩
    · obtain ⟨F, hF⟩ : ∃ F, F = (if bl = 0 then List.replicate 128 (0 : Int) else b) := ⟨_, rfl⟩
      have hFl : F.length = 128 := by
        rw [hF]; split
        · simp
        · omega
      have HA : Hid (DTakeA (tkB T zs at') (.returned (.tuple #[.agg (blc F), .int .i64 nx, .bool true]))) := by
        show DTakeA _ _
        rw [HTk.out, if_neg (by omega), ← hF]; rfl
      have hd : bl = 0 ∨ bl = 128 := by omega
      obtain ⟨w3, hrun, z3, b3⟩ := copy_blk (c := bc) z2 HF.out.bs hd HB2.out (Nat.le_refl _)
      rw [← hF] at z3
      have hFs := blc_size hFl
      obtain ⟨X, hX⟩ : ∃ X, X = blc F := ⟨_, rfl⟩
      rw [← hX] at HA z3 hFs
      have hX1 : X.all (·.oneCell') = true := by rw [hX]; exact blc_one _
      have HB3 := hide b3
      clear HBad HTk HF hF hbl hX hbad b3 z2
      rcases hd with rfl | rfl
      all_goals (
        go_wp2_with (first
          | refine wpList_load_row rfl _ _ rfl w.heap.size rfl 73 X (0, 0) _ z3 Try.underlying73 rfl (by rw [hFs]; exact info128) ?_
          | refine wpList_store_row rfl _ _ _ rfl w.heap.size X rfl rfl 73 X z3 (by rw [hFs]; exact info128) (by rw [hFs]) hX1 ?_)
        refine bodyPost_ret (Dat.results_c3 (p := 6) (u := 7) (v := 8) rfl _ _ w.heap.size X rfl (load_blk (setRow_heap _ _ _ _ _ _ z3) hFs)) rfl ?_
        exact ⟨HA.out, below_setRow HB3.out (Nat.le_refl _) _⟩)
  · have her' : (er != 0) = true := by simpa using her
    have hno : tkB T zs at' = none := by rw [HTk.out, if_pos (.inl her)]
    have HA := hide (HBad.out hno)
    have HR2 := hide (setRow_heap w2 w.heap.size (Array.replicate 128 (Value.int .u8 0)) (Array.replicate 128 (Value.int .u8 0)) 73 (0, 0) z2)
    have HB3 := hide (below_setRow HB2.out (Nat.le_refl w.heap.size) (Array.replicate 128 (Value.int .u8 0)))
    clear HBad HTk HF hno
    go_wp2_with (first
      | refine wpList_store_row rfl _ _ _ rfl w.heap.size (Array.replicate 128 (.int .u8 0)) rfl rfl 73 (Array.replicate 128 (.int .u8 0)) z2 (by rw [hs0]; exact info128) (by rw [hs0]) ho0 ?_)
    refine bodyPost_ret (Dat.results_c3 (p := 6) (u := 7) (v := 8) rfl _ _ w.heap.size (Array.replicate 128 (.int .u8 0)) rfl (load_blk HR2.out hs0)) rfl ?_
    exact ⟨HA.out, HB3.out⟩
/-- A block laid into a variable that is new. -/
theorem wpList_store_blk {w : World} {ops : Array Oper} {rest : List Oper} {o : Oper} {a : Act} {Q : Exit → Act → World → Prop} (hgd : o.guard = none) (x y : Operand) (ho : o.op = .store 73 x y)
    (hx : a.eval x = .pointer (some ⟨w.heap.size, 0, none⟩)) (X : Array Value) (hy : a.eval y = .agg X) (hs : X.size = 128) (h1 : X.all (·.oneCell') = true)
    (h : ∀ w', w'.heap[w.heap.size]? = some (.cells X 73 (0, 0)) → Below w.heap.size w w' → wpList Try.prog ops Q rest (a.put o.dst undef) w') :
    wpList Try.prog ops Q (o :: rest) a (w.alloc (.cells (Array.replicate 128 (.int .u8 0)) 73)) :=
  wpList_store_row hgd _ x y ho w.heap.size X hx hy 73 (Array.replicate 128 (.int .u8 0)) (heap_alloc_new w _) (by rw [hs]; exact info128) (by rw [hs]; simp) h1
    (h _ (setRow_heap _ _ _ _ _ _ (heap_alloc_new w _)) (below_setRow (below_one w _) (Nat.le_refl _) _))
theorem bs_blc {w : World} {b t : Nat} {fz : Nat × Nat} {zs : List Int} (h : w.heap[b]? = some (.cells (blc zs) t fz)) (hl : zs.length = 128) (hb : Bytes zs) : Bs w (some ⟨b, 0, none⟩) 128 zs := by
  refine ⟨hl, hb.g, .inr ⟨b, 0, rfl, heap_lt h, fun i hi => ?_⟩⟩
  rw [Nat.zero_add, cell_of_row _ b i _ _ _ h]
  simp [blc, bv, Lz.g_lt _ _ hi, hi]
/-- A part of a row that is new. -/
theorem fresh_cut {w w' : World} {n c lo hi : Nat} {ao : Option Addr} {zs : List Int} (h : w'.ownsRow w.heap.size 5 1 (.slice ao n c) n (bv zs)) (hb : Bytes zs) (hbel : Below w.heap.size w w') (h1 : lo ≤ hi) (h2 : hi ≤ n) : Fresh w w' (if c = lo then ao else Option.map (fun x => x.add lo) ao) (hi - lo) (c - lo) ((zs.take hi).drop lo) := by
  have hF := fresh_owns h hb hbel
  have hz := hF.bs.1
  have hB := (hF.bs.take hi h2).toB.rest (cap := c) lo h1 (Nat.le_trans h2 hF.cap)
  refine ⟨hB, by have := hF.cap; omega, by have := hF.max; omega, fun e => ?_, hbel, fun a ha => ?_⟩
  · by_cases e4 : c = lo
    · omega
    · rw [if_neg e4] at e
      cases ao with
      | none => have := hF.nil rfl; omega
      | some a => simp at e
  · by_cases e4 : c = lo
    · rw [if_pos e4] at ha; exact hF.new a ha
    · rw [if_neg e4] at ha
      cases ao with
      | none => simp at ha
      | some a0 =>
        obtain ⟨b, o, sp⟩ := a0
        have h3 := hF.new ⟨b, o, sp⟩ rfl
        rcases h.2 with ⟨e5, _⟩ | ⟨g, cap, cur, e5, _⟩
        · simp at e5
        · simp at e5
          obtain ⟨⟨rfl, rfl, rfl⟩, rfl⟩ := e5
          simp [Addr.add_lit] at ha
          rw [← ha]; exact h3
theorem tkB_bytes {T : Nat → Nat} {z : List Int} (hz : Bytes z) {at' nx : Int} {b : List Int} (h : tkB T z at' = some (b, nx)) : Bytes b := by
  unfold tkB at h
  split at h
  · simp at h
  · simp only [Option.some.injEq, Prod.mk.injEq] at h
    obtain ⟨rfl, rfl⟩ := h
    split
    · intro y hy; simp at hy; omega
    · exact take_bytes T hz at'
/-- How long a slice is. -/
def lenOfSlice : Value → Nat
  | .slice _ n _ => n
  | _ => 0
set_option maxRecDepth 100000 in
set_option maxHeartbeats 4000000 in
theorem dRead_any (tb len cap : Nat) (start size off n : Int) (T : Nat → Nat) (ao : Option Addr) (zs : List Int) (w : World) (hT : Tb w tb T) (htb : tb < w.heap.size) (hS : Small T) (hB : Bs w ao len zs) (hc : len ≤ cap) (hnil : ao = none → cap = 0) (hl : len ≤ 1000000) (hcm : cap ≤ 9223372036854775807) (ha : In64 start) (hs : In64 size) (ho : In64 off) (hn : In64 n) :
    Calls Try.prog 17 #[.pointer (some ⟨tb, 0, none⟩), .slice ao len cap, .int .i64 start, .int .i64 size, .int .i64 off, .int .i64 n] w fun r w' => DReads T zs start size off n w w' r := by
  by_cases h : size < 0 ∨ 4096 < size ∨ off < 0 ∨ n < 0
  · have HW : Hid (DReads T zs start size off n w w (.returned (.tuple #[.slice none 0 0, .int .i64 1]))) := DReads.none (rd_arg h) (Below.refl _ _)
    have HM := hide (maySize_any size w)
    clear hB hnil hT
    by_cases h1 : 0 ≤ size ∧ size ≤ 4096
    · have hd : decide (0 ≤ size ∧ size ≤ 4096) = true := by simp; omega
      rw [hd] at HM
      clear hd
      go_enter Try.func17, Try.ntmps17
      go_wp2_with (go_at_call 30; refine HM.out.mono ?_; rintro r w1 ⟨rfl, rfl⟩)
      all_goals first
        | (go_ret2; exact HW.out)
        | (exfalso; omega)
    · have hd : decide (0 ≤ size ∧ size ≤ 4096) = false := by simp; omega
      rw [hd] at HM
      clear hd
      go_enter Try.func17, Try.ntmps17
      go_wp2_with (go_at_call 30; refine HM.out.mono ?_; rintro r w1 ⟨rfl, rfl⟩)
      all_goals first
        | (go_ret2; exact HW.out)
        | (exfalso; omega)
  obtain ⟨sz, rfl⟩ : ∃ k : Nat, size = k := ⟨size.toNat, by omega⟩
  obtain ⟨of, rfl⟩ : ∃ k : Nat, off = k := ⟨off.toNat, by omega⟩
  obtain ⟨N, rfl⟩ : ∃ k : Nat, n = k := ⟨n.toNat, by omega⟩
  have h4 : sz ≤ 4096 := by omega
  have hN : (N : Int) ≤ 9223372036854775807 := hn.2
  have hO : (of : Int) ≤ 9223372036854775807 := ho.2
  have g1 : decide ((of : Int) < 0) = false := by simp
  have g2 : decide ((N : Int) < 0) = false := by simp
  clear h hs ho hn
  obtain ⟨K, hK⟩ : ∃ K, sz / 128 = K := ⟨_, rfl⟩
  have hKb : K ≤ 32 := by omega
  have HM := hide (maySize_any sz w)
  have hd : decide (0 ≤ (sz : Int) ∧ (sz : Int) ≤ 4096) = true := by simp; omega
  rw [hd] at HM
  clear hd
  have HWh := hide (wholeOf_any sz w (by omega))
  rw [hK] at HWh
  have hKi : ((128 * K : Nat) : Int) = 128 * (K : Int) := by omega
  rw [hKi] at HWh
  by_cases h2 : N = 0 ∨ 128 * K ≤ of
  · have HW : Hid (DReads T zs start sz of N w w (.returned (.tuple #[.slice none 0 0, .int .i64 0]))) := DReads.none (rd_none h4 (by omega)) (Below.refl _ _)
    clear hB hnil hT hK
    by_cases h0 : N = 0
    · subst h0
      clear h2
      go_enter Try.func17, Try.ntmps17
      go_wp2_with (first | (go_at_call 30; refine HM.out.mono ?_; rintro r w1 ⟨rfl, rfl⟩) | (go_at_call 26; refine HWh.out.mono ?_; rintro r w1 ⟨rfl, rfl⟩))
      go_ret2
      exact HW.out
    · have h0' : ((N : Int) == 0) = false := by simp; omega
      have h2' : 128 * (K : Int) ≤ (of : Int) := by omega
      clear h2
      go_enter Try.func17, Try.ntmps17
      go_wp2_with (first | (go_at_call 30; refine HM.out.mono ?_; rintro r w1 ⟨rfl, rfl⟩) | (go_at_call 26; refine HWh.out.mono ?_; rintro r w1 ⟨rfl, rfl⟩))
      go_ret2
      exact HW.out
  have h0' : ((N : Int) == 0) = false := by simp; omega
  have HN0 : Hid (0 < N) := by show 0 < N; omega
  have h2' : ¬ 128 * (K : Int) ≤ (of : Int) := by omega
  obtain ⟨q, hqd⟩ : ∃ q, of / 128 = q := ⟨_, rfl⟩
  obtain ⟨f, hf⟩ : ∃ f, of % 128 = f := ⟨_, rfl⟩
  obtain ⟨t, ht⟩ : ∃ t, up sz of N = t := ⟨_, rfl⟩
  obtain ⟨m, hm⟩ : ∃ m, (t + 127) / 128 = m := ⟨_, rfl⟩
  have hofq : of = 128 * q + f := by omega
  have hf2 : f < 128 := by omega
  have htn : t = f + min N (128 * K - of) := by rw [← ht, ← hK, ← hf]; rfl
  have hqK : q < K := by omega
  have HR : Hid (rd T zs start sz of N = rdO t f ((pas zs zs.length q start).bind (rds T zs m))) := by
    show _ = _
    rw [rd_of h4 (by omega) (by omega), ht, hf, hqd, hm]
  have HT : Hid (t = f + min N (128 * K - of) ∧ (t + 127) / 128 = m ∧ of = 128 * q + f) := ⟨htn, hm, hofq⟩
  have hqi : (of : Int) / 128 = (q : Int) := by omega
  have hfi : (of : Int) % 128 = (f : Int) := by omega
  have hmi : (f : Int) + min (N : Int) (128 * (K : Int) - (of : Int)) = (t : Int) := by omega
  have HP := hide (dPass_any len cap q start len ao zs w hB hc hnil hl hcm ha ⟨by omega, by omega⟩ (by omega))
  have HTb := hide hT
  have HB := hide hB
  have HNi := hide hnil
  have HZ := hide hB.1
  have HZB := hide hB.bytes
  clear hB hnil hT hK ht htn hm hofq hqd hf h2
  go_enter Try.func17, Try.ntmps17
  go_wp2_with (first | (go_at_call 30; refine HM.out.mono ?_; rintro r w1 ⟨rfl, rfl⟩) | (go_at_call 26; refine HWh.out.mono ?_; rintro r w1 ⟨rfl, rfl⟩) | fail)
  obtain ⟨w, rfl⟩ : ∃ w, w = w1 := ⟨_, rfl⟩
  refine HP.out.mono ?_
  rintro r w2 ⟨hr, hb2⟩
  have Hb2 := hide hb2
  unfold DPasses at hr
  rw [HZ.out] at HR
  cases hpa : pas zs len q start with
  | none =>
    rw [hpa] at hr HR
    subst hr
    have HA : Hid (DReads T zs start sz of N w w2 (.returned (.tuple #[.slice none 0 0, .int .i64 35]))) := DReads.none (by rw [HR.out]; rfl) hb2
    simp only [Option.getD_none, Option.isSome_none]
    clear hpa hb2 HP HM HWh
    go_wp2
    go_ret2
    exact HA.out
  | some x0 =>
    rw [hpa] at hr HR
    subst hr
    have hx0 : In64 x0 := pas_in hpa ha (by rw [HZ.out]; omega)
    simp only [Option.getD_some, Option.isSome_some]
    clear hpa hb2 HP HM HWh
    by_cases hmin : (N : Int) ≤ 128 * (K : Int) - (of : Int)
    · have hmi2 : (f : Int) + (N : Int) = (t : Int) := by omega
      clear hmi
      go_wp2
      try rw [hfi]
      clear hmi2
      go_loopw [15, 19] (fun s15 s19 wr => ∃ (j M c : Nat) (x : Int) (B : List Int) (vo : Option Addr), s15 = .int .i64 x ∧ s19 = .slice vo M c ∧ Hid (M = 128 * j) ∧ j ≤ m ∧ In64 x ∧ Below w.heap.size w wr ∧ wr.ownsRow w.heap.size 5 1 (.slice vo M c) M (bv B) ∧ Bytes B ∧ Hid (rds T zs m x0 = (rds T zs (m - j) x).map (fun y => B ++ y))) (fun _ s19 _ => 10000 - lenOfSlice s19)
      case atStart => exact ⟨0, 0, 0, x0, [], none, rfl, rfl, rfl, Nat.zero_le _, hx0, Hb2.out, World.ownsRow_nil _ _ _ _, Bytes.nil, by show _ = _; simp⟩
      case round =>
        clear Hb2 hx0
        obtain ⟨j, M, c, x, B, vo, rfl, rfl, HM, hj, hx, hb, hown, hby, HE⟩ := hrel
        have hBl : B.length = M := by have := hown.1; rw [bv_length] at this; omega
        have HBl := hide hBl
        have HO := hide hown
        have HBy := hide hby
        have Hb := hide hb
        have hsz := hb.size
        clear hown hby hBl
        by_cases hgo : j < m
        · have e1 : (M : Int) < (t : Int) := by have := HT.out; have := HM.out; omega
          have hMb : M ≤ 5000 := by have := HT.out; have := HM.out; omega
          have HS := hide (dTakeB_any tb len cap x T ao zs wr (HTb.out.below hb htb) (Nat.lt_of_lt_of_le htb hsz) hS (HB.out.below hb) hc HNi.out hl hcm hx)
          clear hb
          go_wp2_with fail
          refine HS.out.mono ?_
          rintro r w3 ⟨hr, hb3⟩
          unfold DTakeA at hr
          subst hr
          have Hb3 := hide (Hb.out.trans (hb3.mono hsz))
          have HO3 := hide (owns_below HO.out hb3)
          have hsz3 : w.heap.size ≤ w3.heap.size := Nat.le_trans hsz hb3.size
          clear hb3 HS HO Hb
          cases htk : tkB T zs x with
          | none =>
            have HA : Hid (∀ w4, Below w3.heap.size w3 w4 → DReads T zs start sz of N w w4 (.returned (.tuple #[.slice none 0 0, .int .i64 35]))) := fun w4 h4 => DReads.none (by
              rw [HR.out, Option.bind_some, HE.out, show m - j = (m - j - 1) + 1 by omega, rds_none htk]; rfl) (Hb3.out.trans (h4.mono hsz3))
            simp only [Option.getD_none, Option.isSome_none]
            have hX := blc_size (zs := List.replicate 128 0) (by simp)
            have hX1 := blc_one (List.replicate 128 0)
            generalize blc (List.replicate 128 0) = X at *
            clear htk
            go_wp2_with (refine wpList_store_blk rfl _ _ rfl rfl X rfl hX hX1 ?_; intro w4 _ hb4; have HA4 := hide (HA.out w4 hb4); clear hb4)
            go_ret2
            exact HA4.out
          | some p =>
            obtain ⟨bb, nx⟩ := p
            obtain ⟨k1, k2, k3, k4⟩ := tkB_some HZB.out htk
            rw [HZ.out] at k4
            have hbb := tkB_bytes HZB.out htk
            have hX := blc_size k1
            have hX1 := blc_one bb
            have HE2 : Hid (rds T zs m x0 = (rds T zs (m - (j + 1)) nx).map (fun y => (B ++ bb) ++ y)) := by
              show _ = _
              rw [HE.out, show m - j = (m - (j + 1)) + 1 by omega, rds_some htk, Option.map_map]
              congr 1
              funext y
              simp
            simp only [Option.getD_some, Option.isSome_some]
            obtain ⟨X, hXe⟩ : ∃ X, X = blc bb := ⟨_, rfl⟩
            rw [← hXe] at hX hX1 ⊢
            have HXe := hide hXe
            have Hk1 := hide k1
            clear htk HE hXe k1
            go_wp2_with (first
              | (refine wpList_store_blk rfl _ _ rfl rfl X rfl hX hX1 ?_
                 intro w4 h4 hb4
                 have HBs4 := hide (bs_blc (HXe.out ▸ h4) Hk1.out hbb)
                 have HO4 := hide (owns_below HO3.out hb4)
                 have Hb4 := hide (Hb3.out.trans (hb4.mono hsz3))
                 have hsz4 : w.heap.size ≤ w4.heap.size := Nat.le_trans hsz3 hb4.size
                 clear h4 hb4)
              | (at_builtin
                 refine wpList_append_bs _ (by rfl) (.tmp 78) (.tmp 79) (by rfl) w.heap.size vo M c B (by rfl) HO4.out _ 128 128 bb (by rfl) HBs4.out (fun h => by simp at h) (by omega) hsz4 ?_
                 intro ao5 c5 w5 ho5 hg5
                 have Hb5 := hide (Hb4.out.trans (grown_below hsz4 HO4.out hg5))
                 have HO5 := hide ho5
                 clear ho5 hg5))
            go_roundw
            case rel => exact ⟨j + 1, M + 128, c5, nx, B ++ bb, ao5, rfl, rfl, (by have := HM.out; show _ = _; omega), by omega, ⟨by omega, by omega⟩, Hb5.out, HO5.out, HBy.out.append hbb, HE2⟩
            case measure => simp [lenOfSlice]; omega
        · have HFin : Hid (DReads T zs start sz of N w wr (.returned (.tuple #[.slice (if c = f then vo else Option.map (fun x => x.add f) vo) (t - f) (c - f), .int .i64 0]))) := by
            have h1 := HT.out
            have h2 := HM.out
            obtain rfl : j = m := by omega
            refine DReads.of (Y := ot t f B) ?_ (fresh_cut HO.out HBy.out hb (by omega) (by omega))
            rw [HR.out, Option.bind_some, HE.out, Nat.sub_self]
            simp [rds, rdO]
          have e1 : ¬ (M : Int) < (t : Int) := by have := HT.out; have := HM.out; omega
          have hfc := cap_of_owns HO.out
          have hft : (f : Int) ≤ (t : Int) := by have := HT.out; omega
          have htc : (t : Int) ≤ (c : Int) := by omega
          have hfc2 : (f : Int) ≤ (c : Int) := by omega
          have hcf : ¬ c = f := by have := HT.out; have := HN0.out; omega
          rw [if_neg hcf] at HFin
          clear hgo
          go_wp2
          go_ret2
          exact HFin.out
    · have hmin2 : 128 * (K : Int) - (of : Int) < (N : Int) := by omega
      have hmi2 : (f : Int) + (128 * (K : Int) - (of : Int)) = (t : Int) := by omega
      clear hmi
      go_wp2
      try rw [hfi]
      clear hmi2
      go_loopw [15, 19] (fun s15 s19 wr => ∃ (j M c : Nat) (x : Int) (B : List Int) (vo : Option Addr), s15 = .int .i64 x ∧ s19 = .slice vo M c ∧ Hid (M = 128 * j) ∧ j ≤ m ∧ In64 x ∧ Below w.heap.size w wr ∧ wr.ownsRow w.heap.size 5 1 (.slice vo M c) M (bv B) ∧ Bytes B ∧ Hid (rds T zs m x0 = (rds T zs (m - j) x).map (fun y => B ++ y))) (fun _ s19 _ => 10000 - lenOfSlice s19)
      case atStart => exact ⟨0, 0, 0, x0, [], none, rfl, rfl, rfl, Nat.zero_le _, hx0, Hb2.out, World.ownsRow_nil _ _ _ _, Bytes.nil, by show _ = _; simp⟩
      case round =>
        clear Hb2 hx0
        obtain ⟨j, M, c, x, B, vo, rfl, rfl, HM, hj, hx, hb, hown, hby, HE⟩ := hrel
        have hBl : B.length = M := by have := hown.1; rw [bv_length] at this; omega
        have HBl := hide hBl
        have HO := hide hown
        have HBy := hide hby
        have Hb := hide hb
        have hsz := hb.size
        clear hown hby hBl
        by_cases hgo : j < m
        · have e1 : (M : Int) < (t : Int) := by have := HT.out; have := HM.out; omega
          have hMb : M ≤ 5000 := by have := HT.out; have := HM.out; omega
          have HS := hide (dTakeB_any tb len cap x T ao zs wr (HTb.out.below hb htb) (Nat.lt_of_lt_of_le htb hsz) hS (HB.out.below hb) hc HNi.out hl hcm hx)
          clear hb
          go_wp2_with fail
          refine HS.out.mono ?_
          rintro r w3 ⟨hr, hb3⟩
          unfold DTakeA at hr
          subst hr
          have Hb3 := hide (Hb.out.trans (hb3.mono hsz))
          have HO3 := hide (owns_below HO.out hb3)
          have hsz3 : w.heap.size ≤ w3.heap.size := Nat.le_trans hsz hb3.size
          clear hb3 HS HO Hb
          cases htk : tkB T zs x with
          | none =>
            have HA : Hid (∀ w4, Below w3.heap.size w3 w4 → DReads T zs start sz of N w w4 (.returned (.tuple #[.slice none 0 0, .int .i64 35]))) := fun w4 h4 => DReads.none (by
              rw [HR.out, Option.bind_some, HE.out, show m - j = (m - j - 1) + 1 by omega, rds_none htk]; rfl) (Hb3.out.trans (h4.mono hsz3))
            simp only [Option.getD_none, Option.isSome_none]
            have hX := blc_size (zs := List.replicate 128 0) (by simp)
            have hX1 := blc_one (List.replicate 128 0)
            generalize blc (List.replicate 128 0) = X at *
            clear htk
            go_wp2_with (refine wpList_store_blk rfl _ _ rfl rfl X rfl hX hX1 ?_; intro w4 _ hb4; have HA4 := hide (HA.out w4 hb4); clear hb4)
            go_ret2
            exact HA4.out
          | some p =>
            obtain ⟨bb, nx⟩ := p
            obtain ⟨k1, k2, k3, k4⟩ := tkB_some HZB.out htk
            rw [HZ.out] at k4
            have hbb := tkB_bytes HZB.out htk
            have hX := blc_size k1
            have hX1 := blc_one bb
            have HE2 : Hid (rds T zs m x0 = (rds T zs (m - (j + 1)) nx).map (fun y => (B ++ bb) ++ y)) := by
              show _ = _
              rw [HE.out, show m - j = (m - (j + 1)) + 1 by omega, rds_some htk, Option.map_map]
              congr 1
              funext y
              simp
            simp only [Option.getD_some, Option.isSome_some]
            obtain ⟨X, hXe⟩ : ∃ X, X = blc bb := ⟨_, rfl⟩
            rw [← hXe] at hX hX1 ⊢
            have HXe := hide hXe
            have Hk1 := hide k1
            clear htk HE hXe k1
            go_wp2_with (first
              | (refine wpList_store_blk rfl _ _ rfl rfl X rfl hX hX1 ?_
                 intro w4 h4 hb4
                 have HBs4 := hide (bs_blc (HXe.out ▸ h4) Hk1.out hbb)
                 have HO4 := hide (owns_below HO3.out hb4)
                 have Hb4 := hide (Hb3.out.trans (hb4.mono hsz3))
                 have hsz4 : w.heap.size ≤ w4.heap.size := Nat.le_trans hsz3 hb4.size
                 clear h4 hb4)
              | (at_builtin
                 refine wpList_append_bs _ (by rfl) (.tmp 78) (.tmp 79) (by rfl) w.heap.size vo M c B (by rfl) HO4.out _ 128 128 bb (by rfl) HBs4.out (fun h => by simp at h) (by omega) hsz4 ?_
                 intro ao5 c5 w5 ho5 hg5
                 have Hb5 := hide (Hb4.out.trans (grown_below hsz4 HO4.out hg5))
                 have HO5 := hide ho5
                 clear ho5 hg5))
            go_roundw
            case rel => exact ⟨j + 1, M + 128, c5, nx, B ++ bb, ao5, rfl, rfl, (by have := HM.out; show _ = _; omega), by omega, ⟨by omega, by omega⟩, Hb5.out, HO5.out, HBy.out.append hbb, HE2⟩
            case measure => simp [lenOfSlice]; omega
        · have HFin : Hid (DReads T zs start sz of N w wr (.returned (.tuple #[.slice (if c = f then vo else Option.map (fun x => x.add f) vo) (t - f) (c - f), .int .i64 0]))) := by
            have h1 := HT.out
            have h2 := HM.out
            obtain rfl : j = m := by omega
            refine DReads.of (Y := ot t f B) ?_ (fresh_cut HO.out HBy.out hb (by omega) (by omega))
            rw [HR.out, Option.bind_some, HE.out, Nat.sub_self]
            simp [rds, rdO]
          have e1 : ¬ (M : Int) < (t : Int) := by have := HT.out; have := HM.out; omega
          have hfc := cap_of_owns HO.out
          have hft : (f : Int) ≤ (t : Int) := by have := HT.out; omega
          have htc : (t : Int) ≤ (c : Int) := by omega
          have hfc2 : (f : Int) ≤ (c : Int) := by omega
          have hcf : ¬ c = f := by have := HT.out; have := HN0.out; omega
          rw [if_neg hcf] at HFin
          clear hgo
          go_wp2
          go_ret2
          exact HFin.out
end Go.Proofs.Ytifmikdknifcoaa

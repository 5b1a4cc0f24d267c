/- The walk of LzShort: packed bytes are not much longer than the bytes, and bytes that are all the same come to few. -/
import Derived.Test.YtaobfoenopccjaaLaws
import Derived.Test.YtaobfoenopccjaaRound
namespace Go.Proofs.Ytaobfoenopccjaa
set_option linter.unusedVariables false
open Go.RowKit Go.Maps
open Lz (g cp up unpack pack runs mt)

def half (K i : Nat) (c : Int) : List Int := List.replicate i c ++ List.replicate (K - i) 0
theorem half_length (K i : Nat) (c : Int) (h : i ≤ K) : (half K i c).length = K := by simp [half]; omega
theorem half_set (K i : Nat) (c : Int) (h : i < K) : (bv (half K i c)).set i (.int .u8 c) = bv (half K (i + 1) c) := by
  unfold half bv
  rw [show K - i = (K - (i + 1)) + 1 by omega, List.replicate_succ (n := K - (i + 1))]
  rw [List.map_append, List.set_append_right _ _ (by simp)]
  simp [List.replicate_succ', List.append_assoc]
theorem half_zero (K : Nat) (c : Int) : (madeCells (Value.int .u8 0).cells (K * 1)).toList = bv (half K 0 c) := by
  rw [Nat.mul_one]
  show (madeCells #[Value.int .u8 0] K).toList = _
  rw [toList_madeCells_one]
  simp [half, bv]
theorem half_full (K : Nat) (c : Int) : half K K c = List.replicate K c := by simp [half]

set_option maxRecDepth 100000 in
set_option maxHeartbeats 4000000 in
theorem short_walk (a0 : Option Addr) (len0 cap0 : Nat) (z0 : List Int) (a1 : Int) (a2 : Int) (w : World) (w0 : RowB w a0 len0 cap0 z0) (w1 : (Lit.int .u8 a1).wf = true) (w2 : (Lit.int .i64 a2).wf = true) :
    Calls Try.prog 7 #[.slice a0 len0 cap0, .int .u8 a1, .int .i64 a2] w fun e w' => e = .returned (.bool true) ∧ Below w.heap.size w w' := by
  obtain ⟨hbs, hlc, hcm, hby, hnil⟩ := w0.bs (min len0 4096) (by omega)
  obtain ⟨i0, hi, hz0, hz1, hz2⟩ := info_parts infoByte
  obtain ⟨hc1, hc2⟩ := wf_u8 w1
  obtain ⟨ha1, ha2⟩ := wf_i64_bd w2
  generalize z0.take (min len0 4096) = zs at hbs hby
  clear w0
  go_enter Try.func7, Try.ntmps7
  go_wp2_with fail
  refine (shown_any w).mono ?_
  rintro r ws ⟨rfl, hbs0⟩
  go_wp2_with fail
  refine (few_any a0 len0 cap0 4096 ws hlc (by omega)).mono ?_
  rintro r wx ⟨rfl, rfl⟩
  have h1 := hbs.below hbs0
  generalize hm : min len0 4096 = m at *
  have hm1 : m ≤ 4096 := by omega
  have hm2 : m ≤ cap0 := by omega
  have hz := hbs.1
  have hpb := hby.pack
  have hps := Lz.pack_short zs
  rw [hz] at hps
  clear hm hz
  go_wp2_with fail
  refine (Pack_any m cap0 a0 zs wx h1 hm2 (by omega)).mono ?_
  rintro r w2' (⟨d, rfl, rfl⟩ | ⟨d, ao2, n2, c2, rfl, o2, bl2⟩)
  · omega
  have hn2 : n2 ≤ m + (m + 127) / 128 := by have := (bs_of_owns o2 hpb).1; omega
  obtain ⟨K, hK, hcase⟩ : ∃ K : Nat, K ≤ 4096 ∧ (a2.tmod 4097 = (K : Int) ∨ (0 < K ∧ a2.tmod 4097 = -(K : Int))) := by
    have t1 := Int.tmod_lt_of_pos a2 (show (0 : Int) < 4097 by omega)
    have t2 := Int.neg_tmod a2 4097
    have t3 := Int.tmod_lt_of_pos (-a2) (show (0 : Int) < 4097 by omega)
    refine ⟨(a2.tmod 4097).natAbs, by omega, ?_⟩
    omega
  have hsz := hbs0.trans (bl2.mono hbs0.size)
  have hszz := hsz.size
  clear h1 hbs hbs0 hpb hps
  have hK0 : decide ((K : Int) < 0) = false := by simp
  rcases hcase with hk | ⟨hpos, hk⟩
  all_goals
    go_wp2_with (at_make; refine wpList_make_full _ rfl _ _ 22 rfl w.heap.size 5 i0 (.int .u8 0) 1 Try.underlying22 hi hz0 hz1 _ _ _ _ K rfl rfl (by omega) (by omega) (by rw [hz2]; omega) (by unfold maxLen; omega) hszz ?_; intro w3 o3 k3)
    rw [half_zero K a1] at o3
    have hb3 : Below w.heap.size w w3 := hsz.grown k3 hszz (fun k e => by simp at e)
    clear hk k3
    go_loopw [12] (fun s12 wr => ∃ i : Nat, s12 = .int .i64 i ∧ i ≤ K ∧ wr.ownsRow w.heap.size 5 1 (.slice (some ⟨w2'.heap.size, 0, none⟩) K K) K (bv (half K i a1)) ∧ Below w.heap.size w wr) (fun s12 _ => K - (intOf s12).toNat)
    case atStart => exact ⟨0, rfl, by omega, o3, hb3⟩
    case round =>
      clear o3 hb3
      obtain ⟨i, rfl, hiK, o4, hb4⟩ := hrel
      have hl4 := half_length K i a1 hiK
      by_cases dd : i < K
      · have hcell : wr.cell? ⟨w2'.heap.size, i, none⟩ = some (.int .u8 (g (half K i a1) i)) := by
          rw [o4.cellAt i (by omega)]
          simp [bv, g, hl4, dd]
        have hfr := o4.frozenAt i
        have hst := o4.stored i (.int .u8 a1)
        rw [half_set K i a1 dd] at hst
        have HS : Hid ((wr.setCell ⟨w2'.heap.size, i, none⟩ (.int .u8 a1)).ownsRow w.heap.size 5 1 (.slice (some ⟨w2'.heap.size, 0, none⟩) K K) K (bv (half K (i + 1) a1)) ∧ Below w.heap.size w (wr.setCell ⟨w2'.heap.size, i, none⟩ (.int .u8 a1))) :=
          ⟨hst.1, hb4.setCell (by exact hszz) _⟩
        clear hst hl4
        go_wp2
        go_roundw
        case rel => exact ⟨i + 1, by go_num, by omega, HS.out.1, HS.out.2⟩
        case measure => simp only [intOf]; omega
      · obtain rfl : i = K := by omega
        rw [half_full] at o4
        have hrb : Bytes (List.replicate i a1) := fun x hx => by rw [(List.mem_replicate.1 hx).2]; omega
        have b4 := bs_of_owns o4 hrb
        have hps := Lz.pack_same i a1
        clear hl4
        go_wp2_with fail
        refine (Pack_any i i _ (List.replicate i a1) wr b4 (by omega) (by omega)).mono ?_
        rintro r w5 (⟨d5, rfl, rfl⟩ | ⟨d5, ao5, n5, c5, rfl, o5, bl5⟩)
        · omega
        have hn5 : n5 ≤ 6 + 2 * (i / 130) + 2 := by have := (bs_of_owns o5 hrb.pack).1; omega
        have HB : Hid (Below w.heap.size w w5) := hb4.trans (bl5.mono hb4.size)
        clear o5 bl5 b4 o4 hps hb4 o2 bl2 hsz
        have q5 : decide ((n5 : Int) ≤ 6 + 2 * ((i : Int) / 130) + 2) = true := by simp; omega
        go_wp2
        go_ret
        exact ⟨rfl, HB.out⟩
end Go.Proofs.Ytaobfoenopccjaa

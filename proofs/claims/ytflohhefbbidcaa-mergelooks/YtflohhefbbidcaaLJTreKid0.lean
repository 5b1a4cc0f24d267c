import Derived.Test.YtflohhefbbidcaaLJMrgStab4
import Derived.Lib.Bytealg
set_option linter.unusedVariables false
namespace Go.Proofs.Ytflohhefbbidcaa
open Go.RowKit Go.Maps
open Nam Tre Stb
namespace Tre
end Tre
end Go.Proofs.Ytflohhefbbidcaa
namespace Go.Proofs.Ytflohhefbbidcaa
open Go.RowKit Go.Maps
open Nam Tre Stb
theorem bdn {B : Nat} {a w : World} (h : Below B a w) (q : Nat) : Below B a (w.drewN q) := ⟨h.os, h.tape, h.output, h.size, h.block⟩
end Go.Proofs.Ytflohhefbbidcaa
namespace Go.Proofs.Ytflohhefbbidcaa
open Go.RowKit Go.Maps
open Nam Tre Stb
set_option maxRecDepth 100000 in
theorem Same_one (a b : Option Addr) (n c m d : Nat) (l k : List ByteArray) (w : World) (hl : Rs w a n l) (hk : Rs w b m k) (hn : n ≤ 1000000) :
  Calls Try.prog 64 #[.slice a n c, .slice b m d] w fun e w' => e = .returned (.bool (decide (l = k))) ∧ ∃ q, w' = w.drewN q := by
 by_cases hnm : n = m
 ·have := Same_any a b n c m d l k w hl hk hn (by omega)
  rw [nm_dec] at this
  exact this
 ·have hnm' : ((n : Int) != m) = true := by simp; omega
  have hne : Hid (false = decide (l = k)) := by
   show _ = _
   symm
   rw [decide_eq_false_iff_not]
   intro h
   have := congrArg List.length h
   rw [hl.1, hk.1] at this
   exact hnm this
  have HE : Hid (Calls Try.prog 72 #[.slice a n c, .slice b m d] w fun e w' => e = .returned (.bool false) ∧ w' = w) := by
   clear hl hk hne
   show Calls _ _ _ _ _
   go_enter Try.func72, Try.ntmps72
   go_wp2
   go_ret
   exact ⟨rfl, rfl⟩
  clear hl hk
  go_enter Try.func64, Try.ntmps64
  go_wp2_with (go_at_call 72; refine HE.out.mono ?_; rintro e w' ⟨rfl, rfl⟩)
  go_ret
  exact ⟨ret_bool hne.out, 0, rfl⟩
set_option maxRecDepth 100000 in
theorem find1_asks (L : List (Nv × Nod)) (b : Option Addr) (m d : Nat) (k : List ByteArray) (p3 : Nat) (w : World) (hl : ∀ p ∈ L, Rep w p.1 p.2) (hk : Rs w b m k) (h20 : ∀ p ∈ L, p.2.names.length ≤ 1000000) (h3 : w.cell? ⟨p3, 0, none⟩ = some (.slice b m d)) (hp : p3 < w.heap.size) :
  Asks 63 #[.pointer (some ⟨p3, 0, none⟩)] (nmd k) L w := by
 intro q hq w1 hb
 have hr := (hl q hq).below hb
 have h4 : w1.cell? ⟨p3, 0, none⟩ = some (.slice b m d) := (hb.cell hp).trans h3
 have hp1 : p3 < w1.heap.size := Nat.lt_of_lt_of_le hp hb.size
 have cb : ∀ o, (w1.alloc o).cell? ⟨p3, 0, none⟩ = some (.slice b m d) := fun o => (((Below.refl w1.heap.size w1).alloc (Nat.le_refl _) o).cell hp1).trans h4
 have hnl := h20 q hq
 have hn1 := hr.names.1
 have HCA := hide (fun o => Same_one q.1.na b q.1.nn q.1.nc m d q.2.names k (w1.alloc o) (hr.names.below ((Below.refl _ _).alloc (Nat.le_refl _) _)) ((hk.below hb).below ((Below.refl _ _).alloc (Nat.le_refl _) _)) (by omega))
 have HBE := hide (fun o => (Below.refl w1.heap.size w1).alloc (Nat.le_refl _) o)
 obtain ⟨v, x⟩ := q
 show Calls Try.prog 63 #[.agg #[.slice v.na v.nn v.nc, .int .i64 v.ino, .int .i64 v.kind, .int .i64 v.mode, .int .i64 v.uid, .int .i64 v.gid, .slice v.da v.dn v.dc, .string v.tg, .slice v.xa v.xn v.xc, .bool v.op], .pointer (some ⟨p3, 0, none⟩)] w1 _
 clear hr hnl hn1 hl hk h20 h3 hb hq
 go_enter Try.func63, Try.ntmps63
 go_wp2_with (go_at_call 64; refine (HCA.out _).mono ?_; rintro e w' ⟨rfl, q, rfl⟩)
 go_ret
 exact ⟨rfl, bdn (HBE.out _) q⟩
set_option maxRecDepth 100000 in
theorem Find_any (a : Option Addr) (n c : Nat) (L : List (Nv × Nod)) (b : Option Addr) (m d : Nat) (k : List ByteArray) (w : World) (hl : Ns w a n L) (hc : n ≤ c) (hcm : c ≤ 9223372036854775807) (hk : Rs w b m k) (h20 : ∀ p ∈ L, p.2.names.length ≤ 1000000) :
  Calls Try.prog 53 #[.slice a n c, .slice b m d] w fun e w' => e = .returned (.int .i64 (fi (nmd k) 0 (nds L))) ∧ Below w.heap.size w w' := by
 obtain ⟨W, hW⟩ : ∃ W, W = w.alloc (.cells #[.slice b m d] 31) := ⟨_, rfl⟩
 have hb : Below w.heap.size w W := by rw [hW]; exact (Below.refl _ _).alloc (Nat.le_refl _) _
 have h3 : W.cell? ⟨w.heap.size, 0, none⟩ = some (.slice b m d) := by rw [hW]; simp
 have hp : w.heap.size < W.heap.size := by rw [hW]; simp
 have HCA := hide (IndexFunc_any a n c L 63 _ (nmd k) W (hl.below hb) hc hcm (enters _ Try.func63 (by kernel_rfl) rfl) (find1_asks L b m d k w.heap.size W (hl.below hb).2.1 (hk.below hb) h20 h3 hp))
 have HB := hide hb
 have HW := hide hW
 clear hl hk h20 hb h3 hp hW
 go_enter Try.func53, Try.ntmps53
 go_upto_region 1 with fail
 rw [← HW.out]
 go_wp2_with (go_at_call 62; refine HCA.out.mono ?_; rintro e w' ⟨rfl, hb2⟩; have HB2 := hide hb2; clear hb2)
 go_ret
 exact ⟨rfl, HB.out.trans (HB2.out.mono HB.out.size)⟩
namespace Tre
end Tre
end Go.Proofs.Ytflohhefbbidcaa

/- Layer 13: FragPacks: any tails are packed as the document says. -/
import Derived.Test.YtgmkldfjbjnkcaaFrgRows
import Derived.Test.YtgmkldfjbjnkcaaFrgRefAdd
import Derived.Deep.CutBlock
import Derived.Deep.CutRange
namespace Go.Proofs.Ytgmkldfjbjnkcaa
set_option linter.unusedVariables false
set_option maxRecDepth 100000
open Go.RowKit Go.Maps
open Lz (g)
open Frm Mtr Frg

theorem owns_monoF {w : World} {B B' e size n : Nat} {v : Value} {xs : List Value} (h : w.ownsRow B e size v n xs) (hb : B' ≤ B) : w.ownsRow B' e size v n xs :=
  ⟨h.1, h.2.imp id (fun ⟨g, cap, cur, e, h1, r⟩ => ⟨g, cap, cur, e, Nat.le_trans hb h1, r⟩)⟩
/-- Both packers, the program's and the reference's, since a world; and a row of bytes beside them. -/
structure FZ (w : World) (p q : Nat) (O U : Nat → Prop) (L M : Bl) (W : World) : Prop where
  fs : Fps w p O L W
  zs : PkZ W q U M
  uw : ∀ k, U k → w.heap.size ≤ k
  dis : ∀ k, O k → ¬ U k
section
variable {w W W' : World} {p q : Nat} {O U : Nat → Prop} {L M : Bl}
theorem FZ.below (h : FZ w p q O U L M W) (hb : Below W.heap.size W W') : FZ w p q O U L M W' := ⟨h.fs.below hb, h.zs.below hb, h.uw, h.dis⟩
theorem FZ.turn {S : Nat → Prop} (h : FZ w p q O U L M W) (hf : Fr S W W') (h1 : ∀ k, S k → ¬ O k ∧ ¬ U k) (h3 : ∀ k, S k → w.heap.size ≤ k) : FZ w p q O U L M W' :=
  ⟨h.fs.turn hf (fun k hk hx => (h1 k hx).1 hk) h3, h.zs.fr hf (fun k hk hx => (h1 k hx).2 hk), h.uw, h.dis⟩
/-- Behind the program's Add. -/
theorem FZ.prog {O' : Nat → Prop} {L' : Bl} (h : FZ w p q O U L M W) (h1 : Fps w p O' L' W') (h2 : Fr O W W') (h3 : Gr O O' W) : FZ w p q O' U L' M W' :=
  ⟨h1, h.zs.fr h2 (fun k hk hx => h.dis k hx hk), h.uw, fun k hk hx => by
    rcases h3 k hk with hk | hk
    · exact h.dis k hk hx
    · have := h.zs.olt k hx; omega⟩
/-- Behind the reference's. -/
theorem FZ.ref {U' : Nat → Prop} {M' : Bl} (h : FZ w p q O U L M W) (h1 : PkZ W' q U' M') (h2 : Fr U W W') (h3 : Gr U U' W) : FZ w p q O U' L M' W' :=
  ⟨h.fs.turn h2 (fun k hk hx => h.dis k hk hx) h.uw, h1, fun k hk => by
    rcases h3 k hk with hk | hk
    · exact h.uw k hk
    · exact Nat.le_trans h.fs.bel.size hk, fun k hk hx => by
    rcases h3 k hx with hx | hx
    · exact h.dis k hk hx
    · have := h.fs.pk.olt k hk; omega⟩
end
/-- .. and a row of bytes of the call's own. -/
structure FO (w : World) (p q : Nat) (O U : Nat → Prop) (L M : Bl) (ao : Option Addr) (n c : Nat) (Y : List Int) (W : World) : Prop where
  fz : FZ w p q O U L M W
  row : W.ownsRow w.heap.size 5 1 (.slice ao n c) n (bv Y)
  no : ∀ k, (Value.slice ao n c).ownBlock = some k → ¬ O k ∧ ¬ U k
section
variable {w W W' : World} {p q n c : Nat} {O U : Nat → Prop} {L M : Bl} {ao : Option Addr} {Y : List Int}
theorem FO.prog {O' : Nat → Prop} {L' : Bl} (h : FO w p q O U L M ao n c Y W) (h1 : Fps w p O' L' W') (h2 : Fr O W W') (h3 : Gr O O' W) : FO w p q O' U L' M ao n c Y W' :=
  ⟨h.fz.prog h1 h2 h3, owns_fr h.row h2 (fun k hk => (h.no k hk).1), fun k hk => ⟨fun hx => by
    rcases h3 k hx with hx | hx
    · exact (h.no k hk).1 hx
    · have := (h.row.lt k hk).2; omega, (h.no k hk).2⟩⟩
theorem FO.ref {U' : Nat → Prop} {M' : Bl} (h : FO w p q O U L M ao n c Y W) (h1 : PkZ W' q U' M') (h2 : Fr U W W') (h3 : Gr U U' W) : FO w p q O U' L M' ao n c Y W' :=
  ⟨h.fz.ref h1 h2 h3, owns_fr h.row h2 (fun k hk => (h.no k hk).2), fun k hk => ⟨(h.no k hk).1, fun hx => by
    rcases h3 k hx with hx | hx
    · exact (h.no k hk).2 hx
    · have := (h.row.lt k hk).2; omega⟩⟩
theorem FO.set {gb : Nat} (h : FO w p q O U L M (some ⟨gb, 0, none⟩) n c Y W) (i : Nat) (x : Int) : FO w p q O U L M (some ⟨gb, 0, none⟩) n c (Y.set i x) (W.setCell ⟨gb, i, none⟩ (.int .u8 x)) := by
  have hs : (Value.slice (some ⟨gb, 0, none⟩) n c).ownBlock = some gb := by simp [Value.ownBlock]
  have fs : Fr (One gb) W (W.setCell ⟨gb, i, none⟩ (.int .u8 x)) := (Fr.refl (One gb) _).set (p := ⟨gb, i, none⟩) _ (fun _ => rfl)
  refine ⟨h.fz.turn fs (fun k hk => by rw [show k = gb from hk]; exact h.no gb hs) (fun k hk => by rw [show k = gb from hk]; exact (h.row.lt gb hs).1), ?_, h.no⟩
  have := (h.row.stored i (.int .u8 x)).1
  rw [show (bv Y).set i (.int .u8 x) = bv (Y.set i x) by simp [bv, List.map_set]] at this
  exact this
end
set_option maxHeartbeats 4000000 in
theorem packs_walk (a0 : Option Addr) (len0 cap0 : Nat) (R : FRT) (w : World) (f0 : MatB w a0 len0 cap0 R) :
    Calls Try.prog 3 #[.slice a0 len0 cap0] w fun e w' => e = .returned (.bool true) ∧ Below w.heap.size w w' := by
  have HRK : Hid (∀ r, r < min len0 60 → FRowK w R r) := fun r hr => f0.fRowK (by omega)
  have HRows := hide (fun w' hw' => fRows_any a0 len0 cap0 R w w' f0 hw')
  clear f0
  go_enter Try.func3, Try.ntmps3
  go_wp2_with fail
  refine (shown_any w).mono ?_
  rintro r ws ⟨rfl, bs0⟩
  go_wp2_with fail
  refine (HRows.out ws bs0).mono ?_
  rintro r w3 ⟨lo, lc, rfl, hrow, bl⟩
  have HB3 := hide (bs0.trans (bl.mono bs0.size))
  have HR3 := hide hrow
  clear bs0 bl hrow HRows
  have hm60 : min len0 60 ≤ 60 := by omega
  generalize min len0 60 = m at *
  go_wp2_with fail
  refine (fNew_any w3).mono ?_
  rintro r w4 ⟨rfl, hp4, hb4, hs4⟩
  have HD4 := hide (Fps.new (Below.refl _ w3) hp4 hb4)
  clear hp4 hb4 hs4
  have HZL := hide (fun j => fz_length R j)
  have HK : Hid (∀ W, Below w3.heap.size w3 W → ∀ j, j < m → FRowK W R j) := fun W hW j hj => (HRK.out j hj).below (HB3.out.trans (hW.mono HB3.out.size))
  have HLc : Hid (∀ W, Below w3.heap.size w3 W → ∀ j, j < m → ∃ gb, lo = some ⟨gb, 0, none⟩ ∧ W.cell? ⟨gb, j, none⟩ = some (fvOf R j)) := fun W hW j hj => by
    obtain ⟨gb, c', hv, _, hlt⟩ := HR3.out.form (by omega)
    obtain ⟨rfl, rfl⟩ : lo = some ⟨gb, 0, none⟩ ∧ lc = c' := by simpa using hv
    refine ⟨gb, rfl, ?_⟩
    rw [hW.cell (p := ⟨gb, j, none⟩) hlt, HR3.out.cellAt j (by omega)]
    simp [fcut, hj]
  have HE : Hid (FZ w3 w3.heap.size w4.heap.size (One w3.heap.size) (One w4.heap.size) [] [] (w4.alloc (.cells #[.slice none 0 0] 29))) :=
    ⟨HD4.out.below (below_one _ _), PkZ.new w4, fun k hk => by rw [show k = w4.heap.size from hk]; exact HD4.out.bel.size, fun k hk hx => by
      have h1 := HD4.out.pk.olt k hk
      have h2 : k = w4.heap.size := hx
      omega⟩
  clear HRK HR3 HD4
  generalize hp : w3.heap.size = p at HE ⊢
  clear hp
  go_wp2_with fail
  generalize w4.heap.size = q at *
  go_loopw [6] (fun s6 wr => ∃ (i : Nat) (O U : Nat → Prop), s6 = .int .i64 i ∧ i ≤ m ∧ FZ w3 p q O U (stt (fzOf R) i) (stt (fzOf R) i) wr) (fun s6 _ => m - (intOf s6).toNat)
  case atStart => exact ⟨0, _, _, rfl, Nat.zero_le _, HE.out⟩
  case round =>
    clear HE
    obtain ⟨i, O, U, rfl, hi, hD⟩ := hrel
    have HD := hide hD
    have hlen := stt_len (fzOf R) i
    have hfl := stt_flat (fzOf R) 200 HZL.out i
    by_cases hgo : i < m
    · have hg1 : (i : Int) < (m : Int) := by omega
      obtain ⟨gb, rfl, _⟩ := HLc.out wr hD.fs.bel i hgo
      have HLk : Hid (∀ W, Below w3.heap.size w3 W → W.cell? ⟨gb, i, none⟩ = some (fvOf R i)) := fun W hW => by
        obtain ⟨gb', e1, e2⟩ := HLc.out W hW i hgo
        obtain rfl : gb = gb' := by simpa using e1
        exact e2
      unfold fvOf at HLk
      have hk := HK.out wr hD.fs.bel i hgo
      have hcap := hk.cap
      have hmax := hk.max
      have HRw := hide (fun W hW => HK.out W hW i hgo)
      have HNil := hide hk.nil
      have HSt := hide (show (add (stt (fzOf R) i) (fzOf R i)).1 = stt (fzOf R) (i + 1) from rfl)
      have HLn : Hid ((fzOf R i).length = min (R i).2.1 200) := hk.bs.1
      have hL200 : min (R i).2.1 200 ≤ 200 := by omega
      have HBs : Hid (∀ W, Below w3.heap.size w3 W → Bs W (R i).1 (min (R i).2.1 200) (fzOf R i)) := fun W hW => (HRw.out W hW).bs
      have HBy := hide hk.bytes
      have hl0 := HLk.out (wr.alloc (.cells #[] 5)) (hD.fs.bel.alloc hD.fs.bel.size _)
      have HOe := hide (emptyB (w := wr) (B := wr.heap.size) (Nat.le_refl _))
      have HSe := hide (HBs.out (wr.alloc (.cells #[] 5)) (hD.fs.bel.alloc hD.fs.bel.size _))
      generalize (R i).1 = A at *
      generalize min (R i).2.1 200 = Ln at *
      generalize (R i).2.2.1 = Cp at *
      clear hk hD HRw
      go_upto_region 11 with (first
        | (at_builtin
           refine wpList_append_bs _ rfl (.tmp 33) (.tmp 37) rfl wr.heap.size _ _ _ _ rfl HOe.out A Ln Cp _ rfl HSe.out HNil.out (by omega) (by simp) ?_
           intro ao5 c5 w5 ho5 hg5
           rw [Nat.zero_add] at ho5 ⊢
           rw [List.nil_append] at ho5
           have HO5 := hide ho5
           have HB5 : Hid (Below wr.heap.size wr w5) := ((Below.refl _ wr).alloc (Nat.le_refl _) _).grown hg5 (by simp) (fun k e => (HOe.out.lt k e).1)
           clear ho5 hg5))
      have HF5 : Hid (FO w3 p q O U (stt (fzOf R) i) (stt (fzOf R) i) ao5 Ln c5 (fzOf R i) w5) := ⟨HD.out.below HB5.out, owns_monoF HO5.out HD.out.fs.bel.size, fun k hk => by
        have h1 := (HO5.out.lt k hk).1
        exact ⟨fun hx => by have := HD.out.fs.pk.olt k hx; omega, fun hx => by have := HD.out.zs.olt k hx; omega⟩⟩
      have HAd := hide (HF5.out.fz.fs.adds Ln c5 ao5 (fzOf R i) (Rw.of_owns HO5.out HBy.out).bs (nil_cap HO5.out) (fun a ha _ => (HF5.out.no a.block (by rw [ha]; rfl)).1) (by omega) (by omega) (by omega))
      obtain ⟨nu, hnu⟩ : ∃ nu, (add (stt (fzOf R) i) (fzOf R i)).2.1 = nu := ⟨_, rfl⟩
      obtain ⟨of, hof⟩ : ∃ of, (add (stt (fzOf R) i) (fzOf R i)).2.2 = of := ⟨_, rfl⟩
      rw [hnu, hof, HSt.out] at HAd
      have HNu := hide hnu
      have HOf := hide hof
      clear hnu hof HD HO5 HB5 HOe HSe hl0
      go_upto_region 12 with (first | (go_at_call 10; refine HAd.out.mono ?_; rintro e w6 ⟨rfl, O6, hD6, hF6, hG6⟩; have HF6 := hide (HF5.out.prog hD6 hF6 hG6); clear hD6 hF6 hG6) | fail)
      have HRd := hide (refFAdd_any q Ln Cp U A (stt (fzOf R) i) (fzOf R i) w6 HF6.out.fz.zs (stt_ok _ _) (HBs.out w6 HF6.out.fz.fs.bel) HNil.out (by omega) (by omega))
      unfold RFAdds at HRd
      rw [HNu.out, HOf.out, HSt.out] at HRd
      have hl6 := HLk.out w6 HF6.out.fz.fs.bel
      have q1 : ((nu : Int) != (nu : Int)) = false := by simp
      have q2 : ((of : Int) != (of : Int)) = false := by simp
      clear HAd HF5
      go_wp2_with (first | (go_at_call 11; refine HRd.out.mono ?_; rintro e w7 ⟨rfl, U7, hD7, hF7, hG7⟩; have HF7 := hide (HF6.out.ref hD7 hF7 hG7); clear hD7 hF7 hG7) | fail)
      clear HRd HF6 hl6 HBs HLk HNu HOf HBy q1 q2
      go_loopw [12] (fun s12 wx => ∃ (j : Nat) (Y : List Int), s12 = .int .i64 j ∧ j ≤ Ln ∧ FO w3 p q O6 U7 (stt (fzOf R) (i + 1)) (stt (fzOf R) (i + 1)) ao5 Ln c5 Y wx) (fun s12 _ => Ln - (intOf s12).toNat)
      case atStart => exact ⟨0, _, rfl, Nat.zero_le _, HF7.out⟩
      case round =>
        clear HF7
        obtain ⟨j, Y, rfl, hj, hF8⟩ := hrel
        have HF8 := hide hF8
        by_cases hgj : j < Ln
        · have hg2 : (j : Int) < (Ln : Int) := by omega
          obtain ⟨b5, c', hv, _, _⟩ := hF8.row.form (by omega)
          obtain ⟨rfl, rfl⟩ : ao5 = some ⟨b5, 0, none⟩ ∧ c5 = c' := by simpa using hv
          have hYl : Y.length = Ln := by have := hF8.row.1; rw [bv_length] at this; omega
          have hcj : wr.cell? ⟨b5, j, none⟩ = some (.int .u8 (g Y j)) := by
            rw [hF8.row.cellAt j (by omega)]
            simp [bv, g, hYl, hgj]
          have hfj := hF8.row.frozenAt j
          clear hF8 hv hYl
          go_wp2
          go_roundw
          case rel => exact ⟨j + 1, Y.set j 99, by go_num, by omega, HF8.out.set j 99⟩
          case measure => simp [intOf]; omega
        · obtain rfl : j = Ln := by omega
          have hg2 : ¬ (j : Int) < (j : Int) := by omega
          have HZf := hide hF8.fz
          clear hF8 hgj
          go_wp2
          go_roundw
          case rel => exact ⟨i + 1, O6, U7, by go_num, by omega, HZf.out⟩
          case measure => simp [intOf]; omega
    · obtain rfl : i = m := by omega
      have hg1 : ¬ (i : Int) < (i : Int) := by omega
      have hok := stt_ok (fzOf R) i
      have HBk := hide (fBlocks_any p O (stt (fzOf R) i) wr hD.fs.pk hok (by omega) (by omega))
      generalize hLe : stt (fzOf R) i = L at *
      obtain ⟨ln, hln⟩ : ∃ ln, L.length = ln := ⟨_, rfl⟩
      rw [hln] at HBk hlen
      have HLen := hide hln
      clear hD hfl hok hLe hln HLc
      go_upto_region 20 with (first | (go_at_call 12; refine HBk.out.mono ?_; rintro e w5 ⟨bo, rfl, hB5⟩; have HB5 := hide hB5; clear hB5) | fail)
      have HD5 := hide (HD.out.below HB5.out.bel)
      have HBf := hide (HB3.out.trans (HD5.out.fs.bel.mono HB3.out.size))
      obtain ⟨Z, zo, zn, zc, hZL, hZ5⟩ := HD5.out.zs
      have hzn : zn = ln := by rw [← hZ5.len, ← HLen.out, ← hZL, znb_length]
      subst hzn
      have HZ5 := hide hZ5
      have HZL5 := hide hZL
      have c05 := hZ5.zk.c0
      have q1 : ((zn : Int) != (zn : Int)) = false := by simp
      clear hZ5 hZL HBk HD hgo hg1 hi
      go_wp2_with fail
      go_loopw [14] (fun s14 wx => ∃ j k : Nat, s14 = .int .i64 j ∧ j ≤ zn ∧ wx = w5.drewN k) (fun s14 _ => zn - (intOf s14).toNat)
      case atStart => exact ⟨0, 0, rfl, Nat.zero_le _, rfl⟩
      case round =>
        obtain ⟨j, k, rfl, hj, hwk⟩ := hrel
        by_cases hgo : j < zn
        · have hg1 : (j : Int) < (zn : Int) := by omega
          have hjL : j < L.length := by rw [HLen.out]; exact hgo
          have hjZ : j < Z.length := by rw [HZ5.out.len]; exact hgo
          obtain ⟨gb, Ad, rfl, _, _, hcb, hbb, _, _⟩ := HB5.out.each j hjL
          obtain ⟨zb, c', hv, _, _⟩ := HZ5.out.row.form (by omega)
          obtain ⟨rfl, rfl⟩ : zo = some ⟨zb, 0, none⟩ ∧ zc = c' := by simpa using hv
          have hcz := HZ5.out.row.cellAt j (by omega)
          have hzb : Z[j].b = L[j] := by
            have h1 : (znb Z)[j]? = L[j]? := by rw [HZL5.out]
            simpa [znb, hjZ, hjL] using h1
          have hcz2 : w5.cell? ⟨zb, j, none⟩ = some (.slice Z[j].a L[j].length Z[j].c) := by
            rw [hcz]
            simp [znv, znc, hjZ, hzb]
          have hbz := (HZ5.out.each Z[j] (List.getElem_mem _)).1.bs
          rw [hzb] at hbz
          have d1 : wr.cell? ⟨gb, j, none⟩ = some (.slice (some Ad) L[j].length L[j].length) := by rw [hwk]; exact hcb
          have d2 : wr.cell? ⟨q, 0, none⟩ = some (.slice (some ⟨zb, 0, none⟩) zn zc) := by rw [hwk]; exact c05
          have d3 : wr.cell? ⟨zb, j, none⟩ = some (.slice Z[j].a L[j].length Z[j].c) := by rw [hwk]; exact hcz2
          have d4 : ∀ n, (convert 30 9 (.slice (some Ad) L[j].length L[j].length)).run Try.prog (wr.drewN n) = .ok (.string (strOfNums L[j])) (wr.drewN n) := fun n => by
            rw [hwk]; exact str_any (show Bs ((w5.drewN k).drewN n) (some Ad) L[j].length L[j] from hbb) _
          have d5 : ∀ n, (convert 30 9 (.slice Z[j].a L[j].length Z[j].c)).run Try.prog (wr.drewN n) = .ok (.string (strOfNums L[j])) (wr.drewN n) := fun n => by
            rw [hwk]; exact str_any (show Bs ((w5.drewN k).drewN n) Z[j].a L[j].length L[j] from hbz) _
          have d6 : ((strOfNums L[j]).toList == (strOfNums L[j]).toList) = true := by simp
          have HWk := hide hwk
          generalize strOfNums L[j] = str at *
          generalize L[j].length = y at *
          generalize Z[j].a = za at *
          generalize Z[j].c = zcc at *
          clear hcz hcz2 hbz hcb hbb hzb hv hwk c05
          go_wp2_with fail
          go_quiet (fail)
          go_wp2
          go_roundw
          case rel => exact ⟨j + 1, k + nq, by go_num, by omega, by rw [HWk.out]; simp⟩
          case measure => simp [intOf]; omega
        · obtain rfl : j = zn := by omega
          have hg1 : ¬ (j : Int) < (j : Int) := by omega
          have HBx : Hid (Below w.heap.size w wr) := by rw [hwk]; exact below_drewN HBf.out k
          clear hwk
          go_wp2
          go_ret
          exact ⟨rfl, HBx.out⟩
end Go.Proofs.Ytgmkldfjbjnkcaa

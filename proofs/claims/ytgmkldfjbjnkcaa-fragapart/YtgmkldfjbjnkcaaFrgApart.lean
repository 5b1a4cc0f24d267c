/- Layer 13: FragApart: no two tails have a byte of a block together, each byte of a block is some tail's, and a block that is not the last one has no room for the next tail. -/
import Derived.Test.YtgmkldfjbjnkcaaFrgRows
import Derived.Deep.CutBlock
import Derived.Deep.CutRange
namespace Go.Proofs.Ytgmkldfjbjnkcaa
set_option linter.unusedVariables false
set_option maxRecDepth 100000
open Go.RowKit Go.Maps
open Lz (g)
open Frm Mtr Frg

/-- A packer, and a row of numbers beside it. -/
structure FN (w : World) (p : Nat) (O : Nat → Prop) (L : Bl) (so : Option Addr) (n sc : Nat) (l : List Int) (W : World) : Prop where
  fs : Fps w p O L W
  row : W.ownsRow w.heap.size 3 1 (.slice so n sc) n (zv l)
  no : ∀ k, (Value.slice so n sc).ownBlock = some k → ¬ O k
section
variable {w W W' : World} {p n sc : Nat} {O : Nat → Prop} {L : Bl} {so : Option Addr} {l : List Int}
theorem FN.below (h : FN w p O L so n sc l W) (hb : Below W.heap.size W W') : FN w p O L so n sc l W' := ⟨h.fs.below hb, owns_below h.row hb, h.no⟩
/-- Behind an Add. -/
theorem FN.step {O' : Nat → Prop} {L' : Bl} (h : FN w p O L so n sc l W) (h1 : Fps w p O' L' W') (h2 : Fr O W W') (h3 : Gr O O' W) : FN w p O' L' so n sc l W' :=
  ⟨h1, owns_fr h.row h2 h.no, fun k hk hx => by
    rcases h3 k hx with hx | hx
    · exact h.no k hk hx
    · have := (h.row.lt k hk).2; omega⟩
/-- Behind a number more in the row. -/
theorem FN.put {o : Obj} {b' sc' : Nat} {l' : List Int} (h : FN w p O L so n sc l W) (h1 : W'.ownsRow w.heap.size 3 1 (.slice (some ⟨b', 0, none⟩) (n + 1) sc') (n + 1) (zv l')) (hg : (W.alloc o).grownBy W' (Value.slice so n sc).ownBlock) (hl : (Value.slice so n sc).ownBlock = some b' ∨ b' = (W.alloc o).heap.size) : FN w p O L (some ⟨b', 0, none⟩) (n + 1) sc' l' W' := by
  have hf : Fr (fun k => (Value.slice so n sc).ownBlock = some k) (W.alloc o) W' := Fr.of_grown hg (fun k hk => hk)
  have hd := h.fs.below (below_one W o)
  refine ⟨hd.turn hf (fun k hk hx => h.no k hx hk) (fun k hk => (h.row.lt k hk).1), h1, fun k hk hx => ?_⟩
  obtain rfl : b' = k := by simpa [Value.ownBlock] using hk
  rcases hl with h7 | h7
  · exact h.no b' h7 hx
  · have := h.fs.pk.olt b' hx
    simp at h7; omega
/-- Behind a number turned. -/
theorem FN.set {sb : Nat} (h : FN w p O L (some ⟨sb, 0, none⟩) n sc l W) (i : Nat) (x : Int) : FN w p O L (some ⟨sb, 0, none⟩) n sc (l.set i x) (W.setCell ⟨sb, i, none⟩ (.int .i64 x)) := by
  have hs : (Value.slice (some ⟨sb, 0, none⟩) n sc).ownBlock = some sb := by simp [Value.ownBlock]
  have fs : Fr (One sb) W (W.setCell ⟨sb, i, none⟩ (.int .i64 x)) := (Fr.refl (One sb) _).set (p := ⟨sb, i, none⟩) _ (fun _ => rfl)
  refine ⟨h.fs.turn fs (fun k hk hx => h.no sb hs ((show k = sb from hx) ▸ hk)) (fun k hx => by rw [show k = sb from hx]; exact (h.row.lt sb hs).1), ?_, h.no⟩
  have := (h.row.stored i (.int .i64 x)).1
  rw [zv_set] at this
  exact this
theorem FN.cell {K : Bl} {t : List Int} {sb kn n1 x : Nat} (h : FN w p O L (some ⟨sb, 0, none⟩) n1 sc (szs (K ++ [t])) W) (h1 : K.length = kn) (h2 : kn + 1 = n1) (h3 : t.length = x) : W.cell? ⟨sb, kn, none⟩ = some (.int .i64 (x : Int)) ∧ W.frozen? ⟨sb, kn, none⟩ = false := by
  obtain ⟨b, off, e, _, hc⟩ := (Zs.of h.row).at (by omega)
  obtain ⟨rfl, rfl⟩ : sb = b ∧ 0 = off := by simpa using e
  have := hc kn (by omega)
  rw [Nat.zero_add] at this
  exact ⟨by rw [this, ← h1, szs_last, h3], h.row.frozenAt kn⟩
end
set_option maxHeartbeats 4000000 in
theorem apart_walk (a0 : Option Addr) (len0 cap0 : Nat) (R : FRT) (w : World) (f0 : MatB w a0 len0 cap0 R) :
    Calls Try.prog 6 #[.slice a0 len0 cap0] w fun e w' => e = .returned (.bool true) ∧ Below w.heap.size w w' := by
  have HRK : Hid (∀ r, r < min len0 60 → FRowK w R r) := fun r hr => f0.fRowK (by omega)
  have HRows := hide (fun w' hw' => fRows_any a0 len0 cap0 R w w' f0 hw')
  clear f0
  go_enter Try.func6, Try.ntmps6
  go_wp2_with fail
  refine (shown_any w).mono ?_
  rintro r ws ⟨rfl, bs0⟩
  go_wp2_with fail
  refine (HRows.out ws bs0).mono ?_
  rintro r w3 ⟨lo, lc, rfl, hrow, bl⟩
  have HB3 := hide (bs0.trans (bl.mono bs0.size))
  have HR3 := hide hrow
  clear bs0 bl hrow HRows
  have hm60 : min len0 60 ≤ 60 := by omega
  generalize min len0 60 = m at *
  go_wp2_with fail
  refine (fNew_any w3).mono ?_
  rintro r w4 ⟨rfl, hp4, hb4, hs4⟩
  have HD4 := hide (Fps.new (Below.refl _ w3) hp4 hb4)
  clear hp4 hb4 hs4
  have HZL := hide (fun j => fz_length R j)
  have HK : Hid (∀ W, Below w3.heap.size w3 W → ∀ j, j < m → FRowK W R j) := fun W hW j hj => (HRK.out j hj).below (HB3.out.trans (hW.mono HB3.out.size))
  have HLc : Hid (∀ W, Below w3.heap.size w3 W → ∀ j, j < m → ∃ gb, lo = some ⟨gb, 0, none⟩ ∧ W.cell? ⟨gb, j, none⟩ = some (fvOf R j)) := fun W hW j hj => by
    obtain ⟨gb, c', hv, _, hlt⟩ := HR3.out.form (by omega)
    obtain ⟨rfl, rfl⟩ : lo = some ⟨gb, 0, none⟩ ∧ lc = c' := by simpa using hv
    refine ⟨gb, rfl, ?_⟩
    rw [hW.cell (p := ⟨gb, j, none⟩) hlt, HR3.out.cellAt j (by omega)]
    simp [fcut, hj]
  have HNo : Hid (∀ (W : World) (O : Nat → Prop), (∀ k, O k → w3.heap.size ≤ k) → ∀ j, j < m → ∀ a, (R j).1 = some a → 0 < min (R j).2.1 200 → ¬ O a.block) := fun W O hO j hj a ha h0 hx => by
    have h1 := (HK.out w3 (Below.refl _ _) j hj).bs
    rcases h1.2.2 with h2 | ⟨b, off, h2, h3, _⟩
    · omega
    · rw [ha] at h2
      obtain rfl := Option.some.inj h2
      have := hO _ hx
      simp only at this
      omega
  have HE : Hid (FN w3 w3.heap.size (One w3.heap.size) [] (some ⟨w4.heap.size, 0, none⟩) 0 0 [] (w4.alloc (.cells #[] 3))) :=
    ⟨HD4.out.below (below_one _ _), emptyR HD4.out.bel.size, fun k hk hx => by
      simp [Value.ownBlock] at hk
      have := HD4.out.pk.olt k hx
      omega⟩
  clear HRK HR3 HD4
  generalize hp : w3.heap.size = p at HE ⊢
  clear hp
  go_wp2
  go_loopw [5, 6] (fun s5 s6 wr => ∃ (i sc : Nat) (O : Nat → Prop) (so : Option Addr), s5 = .slice so (stt (fzOf R) i).length sc ∧ s6 = .int .i64 i ∧ i ≤ m ∧ FN w3 p O (stt (fzOf R) i) so (stt (fzOf R) i).length sc (szs (stt (fzOf R) i)) wr) (fun _ s6 _ => m - (intOf s6).toNat)
  case atStart => exact ⟨0, 0, _, _, rfl, rfl, Nat.zero_le _, HE.out⟩
  case round =>
    clear HE
    obtain ⟨i, sc, O, so, rfl, rfl, hi, hD⟩ := hrel
    have HD := hide hD
    have hlen := stt_len (fzOf R) i
    by_cases hgo : i < m
    · have hg1 : (i : Int) < (m : Int) := by omega
      obtain ⟨gb, rfl, hcell⟩ := HLc.out wr hD.fs.bel i hgo
      have hk := HK.out wr hD.fs.bel i hgo
      have hno := HNo.out wr O hD.fs.ow i hgo
      have HLk : Hid (∀ W, Below w3.heap.size w3 W → W.cell? ⟨gb, i, none⟩ = some (fvOf R i)) := fun W hW => by
        obtain ⟨gb', e1, e2⟩ := HLc.out W hW i hgo
        obtain rfl : gb = gb' := by simpa using e1
        exact e2
      unfold fvOf at hcell HLk
      have hcap := hk.cap
      have hmax := hk.max
      have hfl := stt_flat (fzOf R) 200 HZL.out i
      have HAd := hide (hD.fs.adds (min (R i).2.1 200) (R i).2.2.1 (R i).1 (fzOf R i) hk.bs hk.nil hno (by omega) (by omega) (by omega))
      have HSt := hide (show (add (stt (fzOf R) i) (fzOf R i)).1 = stt (fzOf R) (i + 1) from rfl)
      have HLn : Hid ((fzOf R i).length = min (R i).2.1 200) := hk.bs.1
      have hL200 : min (R i).2.1 200 ≤ 200 := by omega
      rw [HSt.out] at HAd
      generalize (R i).1 = A at *
      generalize min (R i).2.1 200 = Ln at *
      generalize (R i).2.2.1 = Cp at *
      obtain ⟨ln, hln⟩ : ∃ ln, (stt (fzOf R) i).length = ln := ⟨_, rfl⟩
      rw [hln] at HD hlen ⊢
      have HLen := hide hln
      clear hk hD hno hfl hln
      by_cases hbad : (fzOf R i).length < 1 ∨ 128 ≤ (fzOf R i).length
      · have HAdd := hide (add_bad (L := stt (fzOf R) i) hbad)
        rw [HAdd.out] at HAd
        have HSS : Hid (stt (fzOf R) (i + 1) = stt (fzOf R) i) := by rw [← HSt.out, HAdd.out]; rfl
        clear hbad
        go_wp2_with fail
        refine HAd.out.mono ?_
        rintro e w5 ⟨rfl, O5, hD5, hF5, hG5⟩
        rw [HSS.out] at hD5
        have HD5 := hide (HD.out.step hD5 hF5 hG5)
        clear hD5 hF5 hG5 HAd HD hcell
        go_wp2
        go_roundw
        case rel => exact ⟨i + 1, sc, O5, so, by rw [HSS.out, HLen.out], by go_num, by omega, by rw [HSS.out, HLen.out]; exact HD5.out⟩
        case measure => simp [intOf]; omega
      · obtain ⟨K, t, hadd, hflat, htz, hcase⟩ := add_good (L := stt (fzOf R) i) hbad
        obtain ⟨kn, hkn⟩ : ∃ kn, K.length = kn := ⟨_, rfl⟩
        obtain ⟨n1, hn1⟩ : ∃ n1, kn + 1 = n1 := ⟨_, rfl⟩
        obtain ⟨x, hx⟩ : ∃ x, t.length = x := ⟨_, rfl⟩
        obtain ⟨l1, hl1⟩ : ∃ l1, ln + 1 = l1 := ⟨_, rfl⟩
        have HAd' := HAd.out
        rw [hadd] at HAd'
        simp only [hkn, hn1, hx] at HAd'
        have HAd2 := hide HAd'
        have HSS : Hid (stt (fzOf R) (i + 1) = K ++ [t ++ fzOf R i]) := by rw [← HSt.out, hadd]; rfl
        have hz := HLn.out
        have hlc : ln = kn ∨ ln = n1 := by
          have := HLen.out
          rcases hcase with ⟨e, _⟩ | ⟨e, _⟩
          · left; rw [← this, e, hkn]
          · right; rw [← this, e, List.length_append, hkn, ← hn1]; rfl
        have q1 : ((n1 : Int) == 0) = false := by simp; omega
        have q2 : ¬ (n1 : Int) < 1 := by omega
        have q2' : decide ((n1 : Int) < 1) = false := by simp; omega
        have q3 : IntKind.i64.wrap ((ln : Int) + 1) = (l1 : Int) := by rw [IntKind.wrap_i64]; omega
        have q4 : ¬ (l1 : Int) < (n1 : Int) := by omega
        have q4' : decide (l1 < n1) = false := by simp; omega
        have q5 : ¬ (n1 : Int) < (ln : Int) := by omega
        have q5' : decide (n1 < ln) = false := by simp; omega
        have q6 : IntKind.i64.wrap ((n1 : Int) - 1) = (kn : Int) := by rw [IntKind.wrap_i64]; omega
        have q7 : IntKind.i64.wrap ((x : Int) + (Ln : Int)) = (x : Int) + Ln := by rw [IntKind.wrap_i64]; omega
        have q8 : (kn : Int) < (n1 : Int) := by omega
        have hn61 : n1 ≤ 61 := by omega
        have HKN := hide hkn
        have HN1 := hide hn1
        have HX := hide hx
        have HL1 := hide hl1
        have HC := hide hcase
        have HZ := hide hz
        have hx128 : x ≤ 128 := by omega
        clear hkn hn1 hx hl1 hcase hz hadd hflat htz hbad HAd HAd' hlc HSt
        go_upto_if 58 with (first | (go_at_call 10; refine HAd2.out.mono ?_; rintro e w5 ⟨rfl, O5, hD5, hF5, hG5⟩; have HD5 := hide (HD.out.step hD5 hF5 hG5); clear hD5 hF5 hG5 HAd2) | fail)
        clear hcell HD
        go_cut [5, 58] from 59 to 79 (fun s5 s58 wx => ∃ sb sc2, s5 = .slice (some ⟨sb, 0, none⟩) n1 sc2 ∧ FN w3 p O5 (stt (fzOf R) (i + 1)) (some ⟨sb, 0, none⟩) n1 sc2 (szs (K ++ [t])) wx)
        case first =>
          rcases HC.out with ⟨hLK, ht0, hlt⟩ | ⟨hLK, hge⟩
          · have hlk : ln = kn := by rw [← HLen.out, hLK, HKN.out]
            have q9 : ((n1 : Int) == (l1 : Int)) = true := by have := HN1.out; have := HL1.out; simp; omega
            have HE : Hid (szs (stt (fzOf R) i) ++ [0] = szs (K ++ [t]) ∧ ln + 1 = n1) := ⟨by rw [hLK, ht0, szs_append]; rfl, by rw [hlk]; exact HN1.out⟩
            have hck := HLk.out w5 HD5.out.fs.bel
            by_cases h0 : ln = 0
            · have q10 : decide ((0 : Int) < (ln : Int)) = false := by simp; omega
              have q11 : ¬ (0 : Int) < (ln : Int) := by omega
              have q10n : decide (0 < ln) = false := by simp; omega
              have hln : ln ≤ 60 := by omega
              clear hlk hLK ht0 hlt HC h0
              go_wp2_with fail
              go_quiet (fail)
              have HD5q := hide (HD5.out.below (below_drewN (Below.refl _ w5) nq))
              obtain ⟨wq, hwq⟩ : ∃ wq, wq = w5.drewN nq := ⟨_, rfl⟩
              rw [← hwq] at HD5q ⊢
              clear hwq
              have HO5 := hide (HD5q.out.row.alloc (.cells #[.int .i64 0] 3))
              have hsz : w3.heap.size ≤ wq.heap.size := HD5q.out.fs.bel.size
              go_wp2_with (first
                | (at_builtin
                   refine wpList_append_num_at _ rfl (.tmp 77) (.tmp 78) rfl w3.heap.size _ ln sc _ rfl HO5.out wq.heap.size 0 rfl (by simp) (by omega) (by simp; omega) ?_
                   intro b' c' w6 ho6 hg6 hl6
                   have HD6 := hide (HD5q.out.put ho6 hg6 hl6)
                   clear ho6 hg6 hl6))
              go_meet
              case rel =>
                have hq := HD6.out
                rw [HE.out.1, HE.out.2] at hq
                exact ⟨b', c', by rw [HE.out.2], hq⟩
            · have q10 : (0 : Int) < (ln : Int) := by omega
              have q10n : decide (0 < ln) = true := by simp; omega
              obtain ⟨K', t', hL'⟩ := split_last (stt (fzOf R) i) (by rw [HLen.out]; exact h0)
              rw [hL', room_app, HZ.out] at hlt
              obtain ⟨y, hy⟩ : ∃ y, t'.length = y := ⟨_, rfl⟩
              obtain ⟨r, hr⟩ : ∃ r, K'.length = r := ⟨_, rfl⟩
              have hrl : r + 1 = ln := by rw [← HLen.out, hL', List.length_append, hr]; rfl
              have hD5 := HD5.out
              rw [hL'] at hD5
              obtain ⟨b, c', hv, _, _⟩ := hD5.row.form (by omega)
              obtain ⟨rfl, rfl⟩ : so = some ⟨b, 0, none⟩ ∧ sc = c' := by simpa using hv
              have hcy := (hD5.cell hr hrl hy).1
              rw [hy] at hlt
              have q11 : IntKind.i64.wrap ((ln : Int) - 1) = (r : Int) := by rw [IntKind.wrap_i64]; omega
              have q12 : (r : Int) < (ln : Int) := by omega
              have hy128 : y ≤ 128 := by
                have := (stt_ok (fzOf R) i) t' (by rw [hL']; simp)
                omega
              have q13 : IntKind.i64.wrap ((y : Int) + (Ln : Int)) = (y : Int) + Ln := by rw [IntKind.wrap_i64]; omega
              have q14 : ¬ (y : Int) + (Ln : Int) ≤ 128 := by omega
              have q14' : decide ((y : Int) + (Ln : Int) ≤ 128) = false := by simp; omega
              have hln : ln ≤ 60 := by omega
              clear hlk hLK ht0 hlt HC h0 hL' hy hr hrl hD5 hv
              go_wp2_with fail
              go_quiet (fail)
              have HD5q := hide (HD5.out.below (below_drewN (Below.refl _ w5) nq))
              obtain ⟨wq, hwq⟩ : ∃ wq, wq = w5.drewN nq := ⟨_, rfl⟩
              rw [← hwq] at HD5q ⊢
              clear hwq
              have HO5 := hide (HD5q.out.row.alloc (.cells #[.int .i64 0] 3))
              have hsz : w3.heap.size ≤ wq.heap.size := HD5q.out.fs.bel.size
              go_wp2_with (first
                | (at_builtin
                   refine wpList_append_num_at _ rfl (.tmp 77) (.tmp 78) rfl w3.heap.size _ ln sc _ rfl HO5.out wq.heap.size 0 rfl (by simp) (by omega) (by simp; omega) ?_
                   intro b' c' w6 ho6 hg6 hl6
                   have HD6 := hide (HD5q.out.put ho6 hg6 hl6)
                   clear ho6 hg6 hl6))
              go_meet
              case rel =>
                have hq := HD6.out
                rw [HE.out.1, HE.out.2] at hq
                exact ⟨b', c', by rw [HE.out.2], hq⟩
          · have hlk : ln = n1 := by rw [← HLen.out, hLK, List.length_append, HKN.out, ← HN1.out]; rfl
            have q9 : ((n1 : Int) == (l1 : Int)) = false := by have := HL1.out; simp; omega
            have HE : Hid (szs (stt (fzOf R) i) = szs (K ++ [t]) ∧ ln = n1) := ⟨by rw [hLK], hlk⟩
            clear hlk hLK hge HC
            go_wp2
            go_meet
            case rel =>
              have hq := HD5.out
              rw [HE.out.1, HE.out.2] at hq
              obtain ⟨b, c', hv, _, hlt⟩ := hq.row.form (by omega)
              obtain ⟨rfl, rfl⟩ : so = some ⟨b, 0, none⟩ ∧ sc = c' := by simpa using hv
              exact ⟨b, sc, by rw [HE.out.2], hq⟩
        case rest =>
          obtain ⟨sb, sc2, rfl, hD6⟩ := hcut
          have HD6 := hide hD6
          have hck := HLk.out wc hD6.fs.bel
          have hcx := (hD6.cell HKN.out HN1.out HX.out).1
          have hfx := (hD6.cell HKN.out HN1.out HX.out).2
          have q9 : ((x : Int) != (x : Int)) = false := by simp
          have HE : Hid ((szs (K ++ [t])).set kn ((x : Int) + Ln) = szs (stt (fzOf R) (i + 1)) ∧ n1 = (stt (fzOf R) (i + 1)).length) := by
            refine ⟨?_, ?_⟩
            · rw [HSS.out, ← HKN.out, ← HX.out]; exact szs_set K t _ Ln HZ.out
            · rw [HSS.out, List.length_append, HKN.out]; exact HN1.out.symm
          clear hD6 HC
          go_wp2
          go_roundw
          case rel =>
            have hq := HD6.out.set kn ((x : Int) + Ln)
            rw [HE.out.1, HE.out.2] at hq
            exact ⟨i + 1, sc2, O5, _, by rw [HE.out.2], by go_num, by omega, hq⟩
          case measure => simp [intOf]; omega
    · obtain rfl : i = m := by omega
      have hg1 : ¬ (i : Int) < (i : Int) := by omega
      have hfl := stt_flat (fzOf R) 200 HZL.out i
      have hok := stt_ok (fzOf R) i
      have HBk := hide (fBlocks_any p O (stt (fzOf R) i) wr hD.fs.pk hok (by omega) (by omega))
      generalize hLe : stt (fzOf R) i = L at *
      obtain ⟨ln, hln⟩ : ∃ ln, L.length = ln := ⟨_, rfl⟩
      rw [hln] at HBk hlen HD ⊢
      have HLen := hide hln
      have HOk := hide hok
      clear hD hfl hok hLe hln HLc
      go_wp2_with fail
      refine HBk.out.mono ?_
      rintro e w5 ⟨bo, rfl, hB5⟩
      have HB5 := hide hB5
      have HD5 := hide (HD.out.below hB5.bel)
      have HBf := hide (HB3.out.trans (HD5.out.fs.bel.mono HB3.out.size))
      clear hB5 HBk HD hgo hg1 hi
      have q1 : ((ln : Int) != (ln : Int)) = false := by simp
      go_wp2
      go_loopw [10] (fun s10 wr' => ∃ j q : Nat, s10 = .int .i64 j ∧ j ≤ ln ∧ wr' = w5.drewN q) (fun s10 _ => ln - (intOf s10).toNat)
      case atStart => exact ⟨0, 0, rfl, Nat.zero_le _, rfl⟩
      case round =>
        obtain ⟨j, q, rfl, hj, hwq⟩ := hrel
        by_cases hgo : j < ln
        · have hg1 : (j : Int) < (ln : Int) := by omega
          have hjL : j < L.length := by rw [HLen.out]; exact hgo
          obtain ⟨gb, Ad, rfl, _, _, hcb, _, _, _⟩ := HB5.out.each j hjL
          obtain ⟨b, off, rfl, _, hsc⟩ := (Zs.of HD5.out.row).at (by omega)
          have hcs := hsc j hgo
          rw [szs_at L j hjL] at hcs
          have h128 := HOk.out _ (List.getElem_mem hjL)
          have hcb' : wr.cell? ⟨gb, j, none⟩ = some (.slice (some Ad) L[j].length L[j].length) := by rw [hwq]; exact hcb
          have hcs' : wr.cell? ⟨b, off + j, none⟩ = some (.int .i64 (L[j].length : Int)) := by rw [hwq]; exact hcs
          generalize L[j].length = x at *
          have q2 : ((x : Int) != (x : Int)) = false := by simp
          have q3 : ¬ (128 : Int) < (x : Int) := by omega
          have q3' : decide ((128 : Int) < (x : Int)) = false := by simp; omega
          have HWq := hide hwq
          clear hcb hcs hsc hwq
          go_wp2_with fail
          go_quiet (fail)
          go_wp2
          go_roundw
          case rel => exact ⟨j + 1, q + nq, by go_num, by omega, by rw [HWq.out]; simp⟩
          case measure => simp [intOf]; omega
        · obtain rfl : j = ln := by omega
          have hg1 : ¬ (j : Int) < (j : Int) := by omega
          have HBx : Hid (Below w.heap.size w wr) := by rw [hwq]; exact below_drewN HBf.out q
          clear hwq
          go_wp2
          go_ret
          exact ⟨rfl, HBx.out⟩
end Go.Proofs.Ytgmkldfjbjnkcaa

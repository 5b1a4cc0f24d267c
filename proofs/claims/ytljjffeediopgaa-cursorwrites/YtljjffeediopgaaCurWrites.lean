/- The walk of the law CursorWrites. -/
import Derived.Test.YtljjffeediopgaaCurRefW
import Derived.Test.YtljjffeediopgaaCurParts
import Derived.Deep.RegionHeld3
import Derived.Deep.RegionHeld
import Derived.Deep.CutBlock
import Derived.Deep.CutRange
namespace Go.Proofs.Ytljjffeediopgaa
set_option linter.unusedVariables false
open Go.RowKit Go.Maps
open Lz (g)
open Cur

/-- Both writers, at one state; their rows lie apart. -/
def BothW (w : World) (p q B : Nat) (vp vq : Value) (s : St) : Prop := WrP w p B vp s ∧ WrR w q B vq s ∧ p ≠ q ∧ (∀ k, vp.ownBlock = some k → vq.ownBlock ≠ some k)
theorem BothW.below {w w' : World} {p q B : Nat} {vp vq : Value} {s : St} (h : BothW w p q B vp vq s) (hb : Below w.heap.size w w') : BothW w' p q B vp vq s := ⟨h.1.below hb, h.2.1.below hb, h.2.2.1, h.2.2.2⟩
theorem WrP.ownLt {w : World} {p B : Nat} {v : Value} {s : St} (h : WrP w p B v s) {k : Nat} (hk : v.ownBlock = some k) : B ≤ k ∧ k < w.heap.size := by
  obtain ⟨ao, n, c, rfl, _, h3, _⟩ := h
  exact ⟨(h3.lt k hk).1, (h3.lt k hk).2⟩
theorem WrR.ownLt {w : World} {p B : Nat} {v : Value} {s : St} (h : WrR w p B v s) {k : Nat} (hk : v.ownBlock = some k) : B ≤ k ∧ k < w.heap.size := by
  obtain ⟨ao, n, c, zs, rfl, _, h3, _⟩ := h
  exact ⟨(h3.lt k hk).1, (h3.lt k hk).2⟩
/-- The program's writer has gone on. -/
theorem BothW.p {w w1 : World} {p q B : Nat} {vp vq v1 : Value} {s s1 : St} (h : BothW w p q B vp vq s) (hf : Fr (Two p vp) w w1) (hl : Lie w vp v1) : WrR w1 q B vq s ∧ (∀ k, v1.ownBlock = some k → vq.ownBlock ≠ some k) := by
  obtain ⟨h1, h2, hne, hap⟩ := h
  refine ⟨?_, fun k hk hq => ?_⟩
  · obtain ⟨ao, n, c, rfl, hd, ho, _⟩ := h1
    obtain ⟨ao', n', c', zs, rfl, hd', ho', rest⟩ := h2
    refine ⟨ao', n', c', zs, rfl, hd'.fr hf (fun hx => ?_), owns_fr ho' hf (fun k hk hx => ?_), rest⟩
    · rcases hx with hx | hx
      · exact hne hx.symm
      · exact owns_ne_hd ho hd' (by decide) hx
    · rcases hx with hx | hx
      · rw [hx] at hk; exact owns_ne_hd ho' hd (by decide) hk
      · exact hap k hx hk
  · rcases hl k hk with h3 | h3
    · exact hap k h3 hq
    · have := (h2.ownLt hq).2; omega
/-- The reference's writer has gone on. -/
theorem BothW.q {w w1 : World} {p q B : Nat} {vp vq v1 : Value} {s s' : St} (h1 : WrP w p B vp s') (h2 : WrR w q B vq s) (hne : p ≠ q) (hap : ∀ k, vp.ownBlock = some k → vq.ownBlock ≠ some k) (hf : Fr (Two q vq) w w1) (hl : Lie w vq v1) : WrP w1 p B vp s' ∧ (∀ k, vp.ownBlock = some k → v1.ownBlock ≠ some k) := by
  refine ⟨?_, fun k hk hq => ?_⟩
  · obtain ⟨ao, n, c, rfl, hd, ho, rest⟩ := h1
    obtain ⟨ao', n', c', zs, rfl, hd', ho', _⟩ := h2
    refine ⟨ao, n, c, rfl, hd.fr hf (fun hx => ?_), owns_fr ho hf (fun k hk hx => ?_), rest⟩
    · rcases hx with hx | hx
      · exact hne hx
      · exact owns_ne_hd ho' hd (by decide) hx
    · rcases hx with hx | hx
      · rw [hx] at hk; exact owns_ne_hd ho hd' (by decide) hk
      · exact hap k hk hx
  · rcases hl k hq with h3 | h3
    · exact hap k hk h3
    · have := (h1.ownLt hk).2; omega
/-- One behind the other. -/
theorem BothW.step {w w1 w2 : World} {p q B : Nat} {vp vq : Value} {s s' : St} (h : BothW w p q B vp vq s) (hB : B ≤ w.heap.size) (hp : B ≤ p) (hq : B ≤ q) (v1 : Value) (hw1 : WrP w1 p B v1 s') (hf1 : Fr (Two p vp) w w1) (hl1 : Lie w vp v1) (hD2 : WrRDone w1 w2 q B vq s') : (∃ vp' vq', BothW w2 p q B vp' vq' s') ∧ Below B w w2 := by
  obtain ⟨hr, hap⟩ := h.p (s1 := s') hf1 hl1
  obtain ⟨v2, x1, x2, x3⟩ := hD2
  obtain ⟨y1, y2⟩ := BothW.q hw1 hr h.2.2.1 hap x2 x3
  refine ⟨⟨v1, v2, y1, x1, h.2.2.1, y2⟩, ?_⟩
  have b1 : Below B w w1 := hf1.below B hB (fun k hk => by rcases hk with hk | hk; omega; exact (h.1.ownLt hk).1)
  have b2 : Below B w1 w2 := x2.below B (Nat.le_trans hB hf1.size) (fun k hk => by rcases hk with hk | hk; omega; exact (hr.ownLt hk).1)
  exact b1.trans b2
def cutS (ss : ByteArray) : ByteArray := if 300 < ss.size then ss.extract 0 300 else ss
theorem cutS_size (ss : ByteArray) : (cutS ss).size ≤ 300 := by
  unfold cutS
  split
  · simp
    omega
  · omega
theorem wTxt_length (b : List Int) (s : St) : (wTxt b s).1.length ≤ s.1.length + 4 + b.length := by
  unfold wTxt; split
  · have := fl_length 3 s; omega
  · have := wByt_length b (wNum b.length 1 s); have := wNum_length b.length 1 s; omega

set_option maxRecDepth 100000 in
set_option maxHeartbeats 4000000 in
theorem writes_any (a1 : Option Addr) (len1 cap1 : Nat) (O : Nat → OpR) (w : World) (f1 : OpsB w a1 len1 cap1 O) :
    Calls Try.prog 4 #[.slice a1 len1 cap1] w fun e w' => e = .returned (.bool true) ∧ Below w.heap.size w w' := by
  have HO : Hid (OpsB w a1 len1 cap1 O) := f1
  have hl2 := f1.1
  clear f1
  go_enter Try.func4, Try.ntmps4
  go_wp2_with fail
  refine (shown_any w).mono ?_
  rintro r ws ⟨rfl, hbs0⟩
  obtain ⟨ws1, hws1⟩ : ∃ ws1, ws1 = ws.alloc (.cells #[.slice none 0 0, .int .i64 0] 45) := ⟨_, rfl⟩
  obtain ⟨p, hp⟩ : ∃ p, p = ws.heap.size := ⟨_, rfl⟩
  obtain ⟨q, hq⟩ : ∃ q, q = ws1.heap.size := ⟨_, rfl⟩
  obtain ⟨ws2, hws2⟩ : ∃ ws2, ws2 = ws1.alloc (.cells #[.slice none 0 0, .int .i64 0] 47) := ⟨_, rfl⟩
  have hbs1 : Below w.heap.size w ws1 := by rw [hws1]; exact hbs0.alloc hbs0.size _
  have hbs2 : Below w.heap.size w ws2 := by rw [hws2]; exact hbs1.alloc hbs1.size _
  have HP : Hid (w.heap.size ≤ p) := by rw [hp]; exact hbs0.size
  have HQ : Hid (w.heap.size ≤ q) := by rw [hq]; exact hbs1.size
  have HBo : Hid (BothW ws2 p q w.heap.size (.slice none 0 0) (.slice none 0 0) ([], 0)) := by
    refine ⟨⟨none, 0, 0, rfl, ?_, World.ownsRow_nil _ _ _ _, Bytes.nil, .inl rfl⟩, ⟨none, 0, 0, [], rfl, ?_, World.ownsRow_nil _ _ _ _, Bytes.nil, fun _ => rfl, .inl rfl⟩, ?_, fun k hk => by simp [Value.ownBlock] at hk⟩
    · have h1 : Hd 45 ws1 p none 0 0 0 := by rw [hws1, hp]; exact Hd.new _ _ _ _ _ _
      rw [hws2]
      exact h1.fr (S := fun _ => False) ((Fr.refl _ _).alloc _) id
    · rw [hws2, hq]; exact Hd.new _ _ _ _ _ _
    · rw [hp, hq, hws1]; simp
  have HB2 : Hid (Below w.heap.size w ws2) := hbs2
  go_upto_block 0 with fail
  have ez : p + 1 = q := by rw [hp, hq, hws1]; simp
  rw [← hws1, ← hws2, ← hp, ez]
  clear hp hq hws1 hws2 hbs0 hbs1 hbs2 ez
  go_cut [6, 7] from 13 to 99 (fun s6 s7 wx => ∃ (s : St) (vp vq : Value), BothW wx p q w.heap.size vp vq s ∧ s.1.length ≤ 100000 ∧ Below w.heap.size w wx)
  case first =>
    go_wp2_with fail
    go_loopw [6, 7] (fun s6 s7 wr => ∃ (i : Nat) (s : St) (vp vq : Value), s6 = .int .i64 i ∧ i ≤ 40 ∧ BothW wr p q w.heap.size vp vq s ∧ s.1.length ≤ 304 * i ∧ Below w.heap.size w wr) (fun s6 _ _ => 40 - (intOf s6).toNat)
    case atStart => exact ⟨0, ([], 0), _, _, rfl, by omega, HBo.out, by simp, HB2.out⟩
    case round =>
      obtain ⟨i, s, vp, vq, rfl, hi, hbo, hlen, hbl⟩ := hrel
      have HBr : Hid (BothW wr p q w.heap.size vp vq s) := hbo
      have HBl : Hid (Below w.heap.size w wr) := hbl
      clear hbo hbl HBo HB2
      by_cases hlt : i < len1 ∧ i < 40
      · obtain ⟨hlt1, hlt2⟩ := hlt
        rcases HO.out.2 with h0 | ⟨b, off, rfl, hb, hcs⟩
        · omega
        obtain ⟨e0, e1, e2, e3, hkd, hxd, hnd, hss⟩ := hcs i hlt1
        have c0 : wr.cell? ⟨b, off + i * 4, none⟩ = some (.int .i64 (O i).kind) := (HBl.out.cell (by exact hb)).trans e0
        have c1 : wr.cell? ⟨b, off + i * 4 + 1, none⟩ = some (.int .i64 (O i).x) := (HBl.out.cell (by exact hb)).trans e1
        have c2 : wr.cell? ⟨b, off + i * 4 + 2, none⟩ = some (.int .i64 (O i).n) := (HBl.out.cell (by exact hb)).trans e2
        have c3 : wr.cell? ⟨b, off + i * 4 + 3, none⟩ = some (.string (O i).s) := (HBl.out.cell (by exact hb)).trans e3
        have HC1 : Hid (∀ w9, Below w.heap.size wr w9 → w9.cell? ⟨b, off + i * 4 + 1, none⟩ = some (.int .i64 (O i).x)) := fun w9 hF => (hF.cell (by exact hb)).trans c1
        have HC2 : Hid (∀ w9, Below w.heap.size wr w9 → w9.cell? ⟨b, off + i * 4 + 2, none⟩ = some (.int .i64 (O i).n)) := fun w9 hF => (hF.cell (by exact hb)).trans c2
        have HKd : Hid (In64 (O i).kind) := hkd
        have HXd : Hid (In64 (O i).x) := hxd
        have HNd : Hid (In64 (O i).n) := hnd
        have hbw : w.heap.size ≤ wr.heap.size := HBl.out.size
        clear e0 e1 e2 e3 hkd hxd hnd hcs
        generalize (O i).kind = kk at *
        generalize (O i).x = xx at *
        generalize (O i).n = nn at *
        generalize (O i).s = ss at *
        go_upto_if 30 with fail
        go_cut [7] from 13 to 99 (fun s7 wx => s7 = .string (cutS ss) ∧ wx = wr)
        case first =>
          by_cases h3 : 300 < ss.size
          · go_wp2_with fail
            go_meet
            case rel => exact ⟨by unfold cutS; rw [if_pos h3], rfl⟩
          · go_wp2_with fail
            go_meet
            case rel => exact ⟨by unfold cutS; rw [if_neg h3], rfl⟩
        case rest =>
        obtain ⟨rfl, hwc⟩ := hcut
        obtain rfl := hwc.symm
        clear hwc
        have hcs := cutS_size ss
        generalize cutS ss = tt at *
        have hsb := sb_length tt
        have k1 := knd_nonneg kk 3 (by omega)
        have k2 := knd_lt kk 3 (by omega)
        go_wp2_with fail
        refine (kind_any kk 3 wr (by omega) (by omega) HKd.out).mono ?_
        rintro r wx ⟨rfl, hwx⟩
        obtain rfl := hwx.symm
        clear hwx c0
        generalize knd kk 3 = kd at *
        have hkd : kd = 0 ∨ kd = 1 ∨ kd = 2 := by omega
        clear k1 k2
        go_upto_block 2 with fail
        go_cut [] from 13 to 99 (fun wx => ∃ (s' : St) (vp' vq' : Value), BothW wx p q w.heap.size vp' vq' s' ∧ s'.1.length ≤ 304 * (i + 1) ∧ Below w.heap.size w wx)
        case first =>
          rcases hkd with rfl | rfl | rfl
          · -- a number
            clear c3
            have hj0 : (0 : Int) ≤ (i : Int) := by omega
            have hj1 : (i : Int) < (len1 : Int) := by omega
            have HC : Hid (∀ wX, WrP wX p w.heap.size vp s → w.heap.size ≤ wX.heap.size → Calls Try.prog 23 #[.pointer (some ⟨p, 0, none⟩), .int .i64 xx, .int .i64 nn] wX fun r w' => r = .returned (.tuple #[]) ∧ WrDone wX w' p w.heap.size vp (wNum xx nn s)) := fun wX h hB => wNum_any p w.heap.size vp xx nn s wX h hB (by omega) HXd.out HNd.out
            have HCr : Hid (∀ wX, WrR wX q w.heap.size vq s → w.heap.size ≤ wX.heap.size → Calls Try.prog 24 #[.pointer (some ⟨q, 0, none⟩), .int .i64 xx, .int .i64 nn] wX fun r w' => r = .returned (.tuple #[]) ∧ WrRDone wX w' q w.heap.size vq (wNum xx nn s)) := fun wX h hB => refWNum_any q w.heap.size vq xx nn s wX h hB (by omega) HXd.out HNd.out
            go_wp2_with fail
            go_region_held3 (fun wX => wX.cell? ⟨b, off + i * 4 + 1, none⟩ = some (.int .i64 xx) ∧ wX.cell? ⟨b, off + i * 4 + 2, none⟩ = some (.int .i64 nn)) (go_keep)
              ((first
                | (go_at_call 23; refine (HC.out wr.drew HBr.out.1 hbw).mono ?_; rintro r w1 ⟨rfl, v1, hW1, hF1, hL1⟩; have HW1 : Hid (WrP w1 p w.heap.size v1 (wNum xx nn s)) := hW1; have HF1 : Hid (Fr (Two p vp) wr w1) := hF1.undrew; have HL1 : Hid (Lie wr vp v1) := hL1; have HBe : Hid (Below w.heap.size wr w1) := (HF1.out.below _ hbw (fun k hk => by rcases hk with hk | hk; (have := HP.out; omega); exact (HBr.out.1.ownLt hk).1)); have c11 := HC1.out w1 HBe.out; have c21 := HC2.out w1 HBe.out; clear hW1 hF1 hL1)))
            have HRq : Hid (WrR w1 q w.heap.size vq s) := (HBr.out.p (s1 := s) HF1.out HL1.out).1
            have hbw1 : w.heap.size ≤ w1.heap.size := Nat.le_trans hbw HBe.out.size
            clear c1 c2
            go_wp2_with fail
            go_region_held3 (fun wX => wX.cell? ⟨b, off + i * 4 + 1, none⟩ = some (.int .i64 xx) ∧ wX.cell? ⟨b, off + i * 4 + 2, none⟩ = some (.int .i64 nn)) (go_keep)
              ((first
                | (go_at_call 24; refine (HCr.out w1.drew HRq.out hbw1).mono ?_; rintro r w2 ⟨rfl, v2, hW2, hF2, hL2⟩; have HD2 : Hid (WrRDone w1 w2 q w.heap.size vq (wNum xx nn s)) := ⟨v2, hW2, hF2.undrew, hL2⟩; have HBe2 : Hid (Below w.heap.size wr w2) := (HBr.out.step hbw HP.out HQ.out v1 HW1.out HF1.out HL1.out HD2.out).2; have c12 := HC1.out w2 HBe2.out; have c22 := HC2.out w2 HBe2.out; clear hW2 hF2 hL2)))
            have HFin : Hid (∃ (s' : St) (vp' vq' : Value), BothW w2 p q w.heap.size vp' vq' s' ∧ s'.1.length ≤ 304 * (i + 1) ∧ Below w.heap.size w w2) := by
              obtain ⟨⟨a, b', x1⟩, x2⟩ := HBr.out.step hbw HP.out HQ.out v1 HW1.out HF1.out HL1.out HD2.out
              exact ⟨_, a, b', x1, by have := wNum_length xx nn s; omega, HBl.out.trans x2⟩
            go_wp2_with fail
            go_meet
            case rel => exact HFin.out
          · -- bytes
            obtain ⟨c, o, hcv, hbs⟩ := conv_any wr tt
            have HBs : Hid (Bs (wr.drew.alloc o) (some ⟨wr.heap.size, 0, none⟩) tt.size (sb tt)) := hbs
            clear hbs c1 c2 c3
            go_wp2_with fail
            refine (wBytes_any p w.heap.size tt.size c _ vp (sb tt) s (wr.alloc o).drew (HBr.out.1.below ?_) ?_ HBs.out (fun h => by simp at h) ?_).mono ?_
            · exact ((Below.refl _ _).alloc (Nat.le_refl _) o).drew
            · simp; omega
            · omega
            rintro r w1 ⟨rfl, hD⟩
            have HDn : WrDone wr w1 p w.heap.size vp (wByt (sb tt) s) := WrDone.trans (Fr.of_below ((Below.refl _ _).alloc (Nat.le_refl _) o).drew) (Lie.refl _ _) hD
            obtain ⟨v1, hW1, hF1, hL1⟩ := HDn
            have HW1 : Hid (WrP w1 p w.heap.size v1 (wByt (sb tt) s)) := hW1
            have HF1 : Hid (Fr (Two p vp) wr w1) := hF1
            have HL1 : Hid (Lie wr vp v1) := hL1
            have HRq : Hid (WrR w1 q w.heap.size vq s) := (HBr.out.p (s1 := s) hF1 hL1).1
            have hbw1 : w.heap.size ≤ w1.heap.size := Nat.le_trans hbw hF1.size
            clear hD hW1 hF1 hL1 hcv
            obtain ⟨c', o', hcv, hbs⟩ := conv_any w1 tt
            have HBs2 : Hid (Bs (w1.drew.alloc o') (some ⟨w1.heap.size, 0, none⟩) tt.size (sb tt)) := hbs
            clear hbs
            go_wp2_with fail
            refine (refWBytes_any q w.heap.size tt.size c' _ vq (sb tt) s (w1.alloc o').drew (HRq.out.below ?_) ?_ HBs2.out (fun h => by simp at h) ?_).mono ?_
            · exact ((Below.refl _ _).alloc (Nat.le_refl _) o').drew
            · simp; omega
            · omega
            rintro r w2 ⟨rfl, hD⟩
            have HD2 : WrRDone w1 w2 q w.heap.size vq (wByt (sb tt) s) := WrRDone.trans (Fr.of_below ((Below.refl _ _).alloc (Nat.le_refl _) o').drew) (Lie.refl _ _) hD
            have HFin : Hid (∃ (s' : St) (vp' vq' : Value), BothW w2 p q w.heap.size vp' vq' s' ∧ s'.1.length ≤ 304 * (i + 1) ∧ Below w.heap.size w w2) := by
              obtain ⟨⟨a, b', x1⟩, x2⟩ := HBr.out.step hbw HP.out HQ.out v1 HW1.out HF1.out HL1.out HD2
              exact ⟨_, a, b', x1, by have := wByt_length (sb tt) s; omega, HBl.out.trans x2⟩
            clear hD HD2
            go_wp2_with fail
            go_meet
            case rel => exact HFin.out
          · -- a text
            clear c1 c2 c3
            go_wp2_with fail
            refine (wText_any p w.heap.size vp tt s wr HBr.out.1 hbw (by omega) (by omega)).mono ?_
            rintro r w1 ⟨rfl, v1, hW1, hF1, hL1⟩
            have HW1 : Hid (WrP w1 p w.heap.size v1 (wTxt (sb tt) s)) := hW1
            have HF1 : Hid (Fr (Two p vp) wr w1) := hF1
            have HL1 : Hid (Lie wr vp v1) := hL1
            have HRq : Hid (WrR w1 q w.heap.size vq s) := (HBr.out.p (s1 := s) hF1 hL1).1
            have hbw1 : w.heap.size ≤ w1.heap.size := Nat.le_trans hbw hF1.size
            clear hW1 hF1 hL1
            go_wp2_with fail
            refine (refWText_any q w.heap.size vq tt s w1 HRq.out hbw1 (by omega) (by omega)).mono ?_
            rintro r w2 ⟨rfl, hD⟩
            have HFin : Hid (∃ (s' : St) (vp' vq' : Value), BothW w2 p q w.heap.size vp' vq' s' ∧ s'.1.length ≤ 304 * (i + 1) ∧ Below w.heap.size w w2) := by
              obtain ⟨⟨a, b', x1⟩, x2⟩ := HBr.out.step hbw HP.out HQ.out v1 HW1.out HF1.out HL1.out hD
              exact ⟨_, a, b', x1, by have := wTxt_length (sb tt) s; omega, HBl.out.trans x2⟩
            clear hD
            go_wp2_with fail
            go_meet
            case rel => exact HFin.out
        case rest =>
        obtain ⟨s', vp', vq', hbo, hlen', hbl⟩ := hcut
        have HBo2 : Hid (BothW wc p q w.heap.size vp' vq' s') := hbo
        have HBl2 : Hid (Below w.heap.size w wc) := hbl
        obtain ⟨po, pn, pc, _, hdp, hpl⟩ := hbo.1.shape
        obtain ⟨qo, qn, qc, qz, _, hdq, _⟩ := hbo.2.1
        have hq1 := hdq.c1
        have HC1' : Hid (∀ wX, Below wc.heap.size wc wX → wX.cell? ⟨q, 1, none⟩ = some (.int .i64 s'.2)) := fun wX h => (h.cell (p := ⟨q, 1, none⟩) (by have := hdq.lt; exact this)).trans hdq.c1
        have HEp : Hid (∀ wX, wX.heap = wc.heap → Calls Try.prog 20 #[.pointer (some ⟨p, 0, none⟩)] wX fun e w' => e = .returned (.int .i64 s'.2) ∧ w' = wX) := fun wX h => Err_any _ p pn pc po s'.2 wX (by unfold Hd at *; rw [h]; exact hdp)
        have HLp : Hid (∀ wX, wX.heap = wc.heap → Calls Try.prog 29 #[.pointer (some ⟨p, 0, none⟩)] wX fun e w' => e = .returned (.int .i64 pn) ∧ w' = wX) := fun wX h => Len_any _ p pn pc po s'.2 wX (by unfold Hd at *; rw [h]; exact hdp)
        have HDq : Hid (∀ wX, WrR wX q w.heap.size vq' s' → Calls Try.prog 30 #[.pointer (some ⟨q, 0, none⟩)] wX fun r w' => ∃ ao c, r = .returned (.slice ao pn c) ∧ Below wX.heap.size wX w') := fun wX h => by
          refine (refDone_any q w.heap.size vq' s' wX h (by omega)).mono ?_
          rintro r w' ⟨ao, c, rfl, _, _, _, _, hb⟩
          exact ⟨ao, c, by rw [hpl], hb⟩
        clear hbo hbl hdp hdq c1 c2 c3 HC1 HC2 hpl
        generalize s'.2 = er at *
        have her : (er != er) = false := by simp
        have hpn : ((pn : Int) != (pn : Int)) = false := by simp
        go_wp2_with fail
        go_region_held3 (fun wX => wX.cell? ⟨q, 1, none⟩ = some (.int .i64 er)) (go_keep)
          ((first
            | (go_at_call 20; refine (HEp.out wc.drew rfl).mono ?_; rintro r wE ⟨rfl, hwE⟩; obtain rfl := hwE.symm; clear hwE)
            | (go_at_call 29; refine (HLp.out wc.drew rfl).mono ?_; rintro r wE ⟨rfl, hwE⟩; obtain rfl := hwE.symm; clear hwE)
            | (go_at_call 30; refine (HDq.out wc.drew HBo2.out.2.1).mono ?_; rintro r w9 ⟨ao9, c9, rfl, hb9⟩; have HB9 : Hid (Below wc.heap.size wc w9) := ⟨hb9.os, hb9.tape, hb9.output, hb9.size, hb9.block⟩; have q9 := HC1'.out w9 HB9.out; clear hb9)))
        have HFin : Hid (∃ (i' : Nat) (s' : St) (vp vq : Value), Value.int .i64 ((i : Int) + 1) = .int .i64 i' ∧ i' ≤ 40 ∧ BothW w9 p q w.heap.size vp vq s' ∧ s'.1.length ≤ 304 * i' ∧ Below w.heap.size w w9) := ⟨i + 1, s', vp', vq', by go_num, by omega, HBo2.out.below HB9.out, hlen', HBl2.out.trans (HB9.out.mono HBl2.out.size)⟩
        go_wp2
        go_roundw
        case rel => exact HFin.out
        case measure => simp [intOf]; omega
      · by_cases h1 : i < len1
        · obtain rfl : i = 40 := by omega
          go_wp2_with fail
          go_meet
          case rel => exact ⟨s, vp, vq, HBr.out, by omega, HBl.out⟩
        · go_wp2_with fail
          go_meet
          case rel => exact ⟨s, vp, vq, HBr.out, by omega, HBl.out⟩
  case rest =>
    obtain ⟨s, vp, vq, hbo, hlen, hbl⟩ := hcut
    have HBo2 : Hid (BothW wc p q w.heap.size vp vq s) := hbo
    have HBl2 : Hid (Below w.heap.size w wc) := hbl
    clear hbo hbl HBo HB2
    have HDp : Hid (Calls Try.prog 31 #[.pointer (some ⟨p, 0, none⟩)] wc.drew fun r w' => Copied wc.drew w' s.1 r) := Done_any p w.heap.size vp s _ HBo2.out.1 (by omega)
    have HDq : Hid (∀ wX, WrR wX q w.heap.size vq s → Calls Try.prog 30 #[.pointer (some ⟨q, 0, none⟩)] wX fun r w' => Copied wX w' s.1 r) := fun wX h => refDone_any q w.heap.size vq s wX h (by omega)
    have hss2 : ((strOfNums s.1).toList == (strOfNums s.1).toList) = true := beq_self_eq_true _
    go_wp2_with fail
    go_region_held (fun wX => True) (trivial)
      ((first
        | (go_at_call 31; refine HDp.out.mono ?_; rintro r w9 ⟨ao9, c9, rfl, hb9, _, _, _, hbe9⟩; have HB9 : Hid (Below wc.heap.size wc w9) := ⟨hbe9.os, hbe9.tape, hbe9.output, hbe9.size, hbe9.block⟩; have HS9 : Hid (Bs w9 ao9 s.1.length s.1) := hb9; have HR9 : Hid (WrR w9 q w.heap.size vq s) := HBo2.out.2.1.below HB9.out; have t9 := str_any hb9 c9; clear hb9 hbe9)
        | (go_at_call 30; refine (HDq.out w9 HR9.out).mono ?_; rintro r w10 ⟨ao10, c10, rfl, hb10, _, _, _, hbe10⟩; have HB10 : Hid (Below w9.heap.size w9 w10) := hbe10; have t10 := str_any hb10 c10; have t11 := str_any (HS9.out.below hbe10) c9; clear hb10 hbe10)))
    all_goals (
      have HFin : Hid (Below w.heap.size w w10) := HBl2.out.trans ((HB9.out.trans (HB10.out.mono HB9.out.size)).mono HBl2.out.size)
      go_wp2
      go_ret
      exact ⟨rfl, HFin.out⟩)
end Go.Proofs.Ytljjffeediopgaa

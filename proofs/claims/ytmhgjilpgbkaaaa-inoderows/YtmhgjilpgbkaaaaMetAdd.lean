/- The walks of the writer's Add and Done. -/
import Derived.Test.YtmhgjilpgbkaaaaMetWrite
namespace Go.Proofs.Ytmhgjilpgbkaaaa
set_option linter.unusedVariables false
open Go.RowKit Go.Maps
open Lz (g)
open Crc (ent)
open Frm Mtr

/-- How long the rest is. -/
def lenAt (w : World) (p : Nat) : Nat := match w.cell? ⟨p, 2, none⟩ with | some (.slice _ n _) => n | _ => 0
theorem Wd.len {w : World} {p tb fn fc rn rc : Nat} {fo ro : Option Addr} (h : Wd w p tb fo fn fc ro rn rc) : lenAt w p = rn := by unfold lenAt; rw [h.c2]
/-- Behind one frame more. -/
theorem wr_frame {w w1 w2 : World} {p tb fn fc rn rc m c2 c3 : Nat} {fo ro ao2 ao3 : Option Addr} {O : Nat → Prop} {F R P : List Int}
    (hd : Wd w p tb fo fn fc ro rn rc) (hO : O p) (hF : Rw w 0 fo fn fc F) (hR : Rw w 0 ro rn rc R) (h5 : ∀ k, (Value.slice fo fn fc).ownBlock = some k → O k ∧ (Value.slice ro rn rc).ownBlock ≠ some k) (h6 : ∀ k, (Value.slice ro rn rc).ownBlock = some k → O k)
    (hN : New w w1 ao2 m c2 P) (hA : Rw w2 0 ao3 (fn + m) c3 (F ++ P)) (hg : w1.grownBy w2 (Value.slice fo fn fc).ownBlock) (hl : Lie w1 (.slice fo fn fc) (.slice ao3 (fn + m) c3)) (h128 : 128 ≤ rn) (h7 : ∀ k, O k → k < w.heap.size) :
    ∃ O', WrM ((w2.setCell ⟨p, 1, none⟩ (.slice ao3 (fn + m) c3)).setCell ⟨p, 2, none⟩ (.slice (if rc = 128 then ro else Option.map (fun x => x.add 128) ro) (rn - 128) (rc - 128))) p O' tb (F ++ P) (R.drop 128) ∧
      Fr O w ((w2.setCell ⟨p, 1, none⟩ (.slice ao3 (fn + m) c3)).setCell ⟨p, 2, none⟩ (.slice (if rc = 128 then ro else Option.map (fun x => x.add 128) ro) (rn - 128) (rc - 128))) ∧ Gr O O' w := by
  have f1 : Fr (fun _ => False) w w1 := Fr.of_below hN.bel
  have hd1 : Wd w1 p tb fo fn fc ro rn rc := hd.fr f1 id
  have hR1 : Rw w1 0 ro rn rc R := hR.fr f1 (fun _ _ => id)
  have hF1 : Rw w1 0 fo fn fc F := hF.fr f1 (fun _ _ => id)
  have f2 : Fr (fun k => (Value.slice fo fn fc).ownBlock = some k) w1 w2 := Fr.of_grown hg (fun k hk => hk)
  have hd2 : Wd w2 p tb fo fn fc ro rn rc := hd1.fr f2 (fun hk => by
    obtain ⟨_, _, cur, hc⟩ := hF1.own hk
    exact hd1.ne hc (by decide) rfl)
  have hR2 : Rw w2 0 ro rn rc R := hR1.fr f2 (fun k hk hx => (h5 k hx).2 hk)
  have hd4 := (hd2.set1 ao3 (fn + m) c3).set2 (if rc = 128 then ro else Option.map (fun x => x.add 128) ro) (rn - 128) (rc - 128)
  have fs : Fr (One p) w2 ((w2.setCell ⟨p, 1, none⟩ (.slice ao3 (fn + m) c3)).setCell ⟨p, 2, none⟩ (.slice (if rc = 128 then ro else Option.map (fun x => x.add 128) ro) (rn - 128) (rc - 128))) :=
    ((Fr.refl (One p) _).set (p := ⟨p, 1, none⟩) _ (fun _ => rfl)).set (p := ⟨p, 2, none⟩) _ (fun _ => rfl)
  have hn3 : ∀ k, (Value.slice ao3 (fn + m) c3).ownBlock = some k → ¬ One p k := fun k hk hx => by
    obtain ⟨_, _, cur, hc⟩ := hA.own hk
    exact hd2.ne hc (by decide) hx
  have hn4 : ∀ k, (Value.slice ro rn rc).ownBlock = some k → ¬ One p k := fun k hk hx => by
    obtain ⟨_, _, cur, hc⟩ := hR2.own hk
    exact hd2.ne hc (by decide) hx
  have hR3 := (hR2.fr fs hn4).drop 128 (by have := hR.1; omega)
  have hs1 := hN.bel.size
  have hs2 := hg.size
  refine ⟨fun k => O k ∨ (w.heap.size ≤ k ∧ k < w2.heap.size), ⟨ao3, fn + m, c3, _, _, _, hd4, .inl hO, hA.fr fs hn3, hR3, fun k hk => ⟨?_, fun hx => ?_⟩, fun k hk => .inl (h6 k (rw_own_drop ro rn rc _ _ 128 k hk)), fun k hk => ?_⟩, ?_, fun k hk => hk.imp id (fun h => h.1)⟩
  · rcases hl k hk with h | h
    · exact .inl (h5 k h).1
    · exact .inr ⟨Nat.le_trans hN.bel.size h, (hA.own hk).2.1⟩
  · have hx' := rw_own_drop ro rn rc _ _ 128 k hx
    rcases hl k hk with h | h
    · exact (h5 k h).2 hx'
    · have := (hR1.own hx').2.1; omega
  · have hs4 := fs.size
    rcases hk with hk | hk
    · have := h7 k hk; omega
    · omega
  · have fO : Fr O w w2 := (f1.mono (S' := O) (fun _ _ h => h.elim)).trans f2 (fun i _ hi => (h5 i hi).1)
    exact fO.trans fs (fun i _ (hi : i = p) => by rw [hi]; exact hO)

/-- Behind what was added to the rest. -/
theorem wr_rest {w w1 : World} {p tb fn fc rn rc m c1 : Nat} {fo ro ao1 : Option Addr} {O : Nat → Prop} {F R Z : List Int}
    (hd : Wd w p tb fo fn fc ro rn rc) (hO : O p) (hF : Rw w 0 fo fn fc F) (hR : Rw w 0 ro rn rc R) (h5 : ∀ k, (Value.slice fo fn fc).ownBlock = some k → O k ∧ (Value.slice ro rn rc).ownBlock ≠ some k) (h6 : ∀ k, (Value.slice ro rn rc).ownBlock = some k → O k)
    (hA : Rw w1 0 ao1 m c1 (R ++ Z)) (hg : w.grownBy w1 (Value.slice ro rn rc).ownBlock) (hl : Lie w (.slice ro rn rc) (.slice ao1 m c1)) (h7 : ∀ k, O k → k < w.heap.size) :
    Wd w1 p tb fo fn fc ro rn rc ∧ ∃ O', WrM (w1.setCell ⟨p, 2, none⟩ (.slice ao1 m c1)) p O' tb F (R ++ Z) ∧ Fr O w (w1.setCell ⟨p, 2, none⟩ (.slice ao1 m c1)) ∧ Gr O O' w := by
  have f2 : Fr (fun k => (Value.slice ro rn rc).ownBlock = some k) w w1 := Fr.of_grown hg (fun k hk => hk)
  have hd2 : Wd w1 p tb fo fn fc ro rn rc := hd.fr f2 (fun hk => by
    obtain ⟨_, _, cur, hc⟩ := hR.own hk
    exact hd.ne hc (by decide) rfl)
  have hF2 : Rw w1 0 fo fn fc F := hF.fr f2 (fun k hk hx => (h5 k hk).2 hx)
  have hd4 := hd2.set2 ao1 m c1
  have fs : Fr (One p) w1 (w1.setCell ⟨p, 2, none⟩ (.slice ao1 m c1)) := (Fr.refl (One p) _).set (p := ⟨p, 2, none⟩) _ (fun _ => rfl)
  have hn3 : ∀ k, (Value.slice ao1 m c1).ownBlock = some k → ¬ One p k := fun k hk hx => by
    obtain ⟨_, _, cur, hc⟩ := hA.own hk
    exact hd2.ne hc (by decide) hx
  have hn4 : ∀ k, (Value.slice fo fn fc).ownBlock = some k → ¬ One p k := fun k hk hx => by
    obtain ⟨_, _, cur, hc⟩ := hF2.own hk
    exact hd2.ne hc (by decide) hx
  have hs2 := hg.size
  refine ⟨hd2, fun k => O k ∨ (w.heap.size ≤ k ∧ k < w1.heap.size), ⟨fo, fn, fc, ao1, m, c1, hd4, .inl hO, hF2.fr fs hn4, hA.fr fs hn3, fun k hk => ⟨.inl (h5 k hk).1, fun hx => ?_⟩, fun k hk => ?_, fun k hk => ?_⟩, ?_, fun k hk => hk.imp id (fun h => h.1)⟩
  · rcases hl k hx with h | h
    · exact (h5 k hk).2 h
    · have := (hF.own hk).2.1; omega
  · rcases hl k hk with h | h
    · exact .inl (h6 k h)
    · exact .inr ⟨h, (hA.own hk).2.1⟩
  · have hs4 := fs.size
    rcases hk with hk | hk
    · have := h7 k hk; omega
    · omega
  · have fO : Fr O w w1 := f2.mono (fun i _ hi => h6 i hi)
    exact fO.trans fs (fun i _ (hi : i = p) => by rw [hi]; exact hO)
theorem New.undrew {w w' : World} {ao : Option Addr} {n c : Nat} {zs : List Int} (h : New w.drew w' ao n c zs) : New w w' ao n c zs := ⟨h.bs, h.cap, h.max, h.nil, ⟨h.bel.os, h.bel.tape, h.bel.output, h.bel.size, h.bel.block⟩, h.own⟩
theorem Fr.undrewN {S : Nat → Prop} {a b : World} {n : Nat} (h : Fr S (a.drewN n) b) : Fr S a b := ⟨h.os, h.tape, h.output, h.size, h.block⟩

set_option maxRecDepth 100000 in
set_option maxHeartbeats 1000000 in
theorem Add_any (p tb n c : Nat) (O : Nat → Prop) (ao : Option Addr) (T : Nat → Nat) (z zs : List Int) (w : World) (h : WrM w p O tb (fr T z (z.length / 128)) (rest z)) (hT : Tb w tb T) (htb : tb < w.heap.size) (hOt : ¬ O tb) (hS : Small T)
    (hb : Bs w ao n zs) (hnil : ao = none → c = 0) (hz : z.length ≤ 100000) (hn : n ≤ 100000) :
    Calls Try.prog 21 #[.pointer (some ⟨p, 0, none⟩), .slice ao n c] w fun r w' => r = .returned (.int .i64 (rf T z z.length)) ∧ ∃ O', WrM w' p O' tb (fr T (z ++ zs) ((z ++ zs).length / 128)) (rest (z ++ zs)) ∧ Fr O w w' ∧ Gr O O' w := by
  obtain ⟨fo, fn, fc, ro, rn, rc, hd, hO, hF, hR, h5, h6, h7⟩ := h
  have H7 := hide h7
  have hfl := fr_length T z (z.length / 128)
  have hfn := hF.1
  have hrn := hR.1
  have hrl := rest_length z
  have hzl := hb.1
  have HRF : Hid (rf T z z.length = 256 * (fn : Int) + rn) := by
    show rf T z z.length = _
    unfold rf; omega
  have hfb : fn ≤ 110000 := by omega
  have hrb : rn < 128 := by omega
  have HF := hide hF
  have HR := hide hR
  have HD := hide hd
  have H5 := hide h5
  have H6 := hide h6
  have HT := hide hT
  have HO := hide hO
  have HOt := hide hOt
  have HS := hide hS
  have HB := hide hb
  have HN := hide hnil
  have c1 := hd.c1
  have c2 := hd.c2
  rw [HRF.out]
  clear hF hR hd h5 h6 h7 hT hO hOt hS hb hnil hfl hfn hrn hrl HRF
  go_enter Try.func21, Try.ntmps21
  go_wp2_with fail
  go_quiet ((first
    | (go_at_call 41; refine Calls.quiet_of_same (refOf_any fn rn _ (by omega) (by omega)))))
  have HRq : Hid (Rw (w.drewN nq) 0 ro rn rc (rest z)) := HR.out
  have HBq : Hid (Bs (w.drewN nq) ao n zs) := HB.out
  have c2q : (w.drewN nq).cell? ⟨p, 2, none⟩ = some (.slice ro rn rc) := c2
  clear c1 c2
  go_wp2_with (first
    | (at_builtin; refine wpList_append_rw _ rfl (.tmp 21) (.tmp 22) rfl 0 ro rn rc (rest z) rfl HRq.out ao n c zs rfl HBq.out HN.out (by omega) (Nat.zero_le _) ?_
       intro ao1 k1 w1 hA hg hl
       have HX := hide (wr_rest (w := w.drewN nq) HD.out HO.out HF.out HR.out H5.out H6.out hA hg hl H7.out)
       have c21 := HX.out.1.c2
       have f21 := HX.out.1.f 2
       clear hA hg hl))
  obtain ⟨_, O1, hW1, hF1, hG1⟩ := HX.out
  have hlz : (z ++ zs).length = z.length + n := by rw [List.length_append, hzl]
  have HL : Hid (∃ k O', WrM (w1.setCell ⟨p, 2, none⟩ (.slice ao1 (rn + n) k1)) p O' tb (fr T (z ++ zs) k) ((z ++ zs).drop (128 * k)) ∧ Fr O w (w1.setCell ⟨p, 2, none⟩ (.slice ao1 (rn + n) k1)) ∧ Gr O O' w ∧ 128 * k ≤ (z ++ zs).length) := by
    refine ⟨z.length / 128, O1, ?_, hF1.undrewN, hG1, by omega⟩
    rw [fr_append T z zs _ (by omega), List.drop_append_of_le_length (by omega)]
    exact hW1
  clear hW1 hF1 hG1 HX HF HR HD H5 H6 HRq HBq HB c2q c21 f21
  go_loopw [] (fun wr => ∃ k O', WrM wr p O' tb (fr T (z ++ zs) k) ((z ++ zs).drop (128 * k)) ∧ Fr O w wr ∧ Gr O O' w ∧ 128 * k ≤ (z ++ zs).length) (fun wr => lenAt wr p)
  case atStart => exact HL.out
  case round =>
    clear HL
    obtain ⟨k, O2, hW, hFr, hG, hk⟩ := hrel
    have hW0 := hW
    obtain ⟨fo2, fn2, fc2, ro2, rn2, rc2, hd, hO2, hF, hR, h5, h6, h7⟩ := hW
    have c1 := hd.c1
    have c2 := hd.c2
    have hlen := hd.len
    have HD := hide hd
    have HF := hide hF
    have HR := hide hR
    have H5 := hide h5
    have H6 := hide h6
    have HO2 := hide hO2
    have HFr := hide hFr
    have HG := hide hG
    have hrl := hR.1
    have hrc : rn2 ≤ rc2 := hR.2.2.1
    have hrm : rc2 ≤ maxLen := hR.2.2.2.1
    unfold maxLen at hrm
    have hfl := fr_length T (z ++ zs) k
    have hfn := hF.1
    have hfb : fn2 ≤ 1000000 := by omega
    rw [List.length_drop] at hrl
    by_cases hgo : 128 ≤ rn2
    · have hg1 : (128 : Int) ≤ (rn2 : Int) := by omega
      have hg2 : (128 : Int) ≤ (rc2 : Int) := by omega
      have htw : tb < wr.heap.size := Nat.lt_of_lt_of_le htb hFr.size
      have hTw : Tb wr tb T := HT.out.fr hFr htb HOt.out
      have hBs : Bs wr ro2 128 (blk (z ++ zs) k) := hR.bs.take 128 hgo
      have HC := hide (fun wx (e : wx = wr.drew) => frameOf_any p tb 128 rc2 fn2 fc2 rn2 rc2 fo2 ro2 ro2 T (blk (z ++ zs) k) wx (by rw [e]; exact hd) (by rw [e]; exact hTw) (by rw [e]; exact htw) HS.out (by rw [e]; exact hBs) (by omega) hR.nil (by omega))
      have hpl := (put_length (T := T) (blk_le (z ++ zs) k)).2.2
      have HFk := hide (fr_succ T (z ++ zs) k)
      have HRk := hide (show ((z ++ zs).drop (128 * k)).drop 128 = (z ++ zs).drop (128 * (k + 1)) by rw [List.drop_drop, Nat.mul_add])
      generalize put T (blk (z ++ zs) k) = P at *
      obtain ⟨m, hm⟩ : ∃ m, P.length = m := ⟨_, rfl⟩
      rw [hm] at hpl HC
      have HX := hide (fun (w3 w4 : World) (ao3 ao4 : Option Addr) (k3 k4 : Nat) hN hA hg hl => wr_frame (w1 := w3) (w2 := w4) (m := m) (P := P) (ao2 := ao3) (c2 := k3) (ao3 := ao4) (c3 := k4) hd hO2 hF hR h5 h6 hN hA hg hl hgo h7)
      have HY := hide (fun (w3 : World) (ao3 : Option Addr) (k3 : Nat) (hN : New wr w3 ao3 m k3 P) => And.intro (hd.fr (Fr.of_below (S := fun _ => False) (b := w3) hN.bel) id) (hF.fr (Fr.of_below (S := fun _ => False) (b := w3) hN.bel) (fun _ _ => id)))
      have HZ := hide (fun (w3 w4 : World) (hd3 : Wd w3 p tb fo2 fn2 fc2 ro2 rn2 rc2) (hF3 : Rw w3 0 fo2 fn2 fc2 (fr T (z ++ zs) k)) (hg : w3.grownBy w4 (Value.slice fo2 fn2 fc2).ownBlock) => hd3.fr (Fr.of_grown (S := fun j => (Value.slice fo2 fn2 fc2).ownBlock = some j) hg (fun j hj => hj)) (fun hj => by
        obtain ⟨_, _, cur, hc⟩ := hF3.own hj
        exact hd3.ne hc (by decide) rfl))
      clear hd hF hR h5 h6 h7 hO2 hFr hG hTw hBs hW0 hm
      go_wp2_with fail
      go_region_law ((first
        | (refine step_append_rw w3 (by rfl) (.tmp 36) (.tmp 43) (by rfl) 0 fo2 fn2 fc2 (fr T (z ++ zs) k) (by rfl) HF3.out ao3 m k3 P (by rfl) HN3.out.bs HN3.out.nil (by omega) (Nat.zero_le _) ?_; intro ao4 k4 w4 hA hg hl; have HX4 := hide (HX.out w3 w4 ao3 ao4 k3 k4 HN3.out hA hg hl); have hd4 := HZ.out w3 w4 HD3.out HF3.out hg; have c14 := hd4.c1; have f14 := hd4.f 1; have HD4 := hide hd4; clear hA hg hl hd4)
        | (go_simp; go_at_call 42; refine (HC.out wr.drew rfl).mono ?_; rintro r w3 ⟨ao3, k3, rfl, hN⟩; have HN3 := hide hN.undrew; have hY := HY.out w3 ao3 k3 hN.undrew; have c13 := hY.1.c1; have HD3 := hide hY.1; have HF3 := hide hY.2; clear hN hY; dsimp only)))
      all_goals (
        have hd5 := HD4.out.set1 ao4 (fn2 + m) k4
        have c25 := hd5.c2
        have f25 := hd5.f 2
        have HL5 := hide ((hd5.set2 (if rc2 = 128 then ro2 else Option.map (fun x => x.add 128) ro2) (rn2 - 128) (rc2 - 128)).len)
        clear hd5 c1 c2 c13 c14 f14 HX HY HZ HC HN3 HD3 HF3 HD4 HD HF HR H5 H6
        go_wp2
        go_roundw
        case rel =>
          obtain ⟨O3, x1, x2, x3⟩ := HX4.out
          refine ⟨k + 1, O3, ?_, HFr.out.gr HG.out x2, HG.out.trans x3 HFr.out.size, by omega⟩
          rw [HFk.out, ← HRk.out]
          exact x1
        case measure =>
          exact Nat.lt_of_le_of_lt (Nat.le_of_eq HL5.out) (by rw [hlen]; omega))
    · have hg1 : (rn2 : Int) < 128 := by omega
      have hg2 : decide ((128 : Int) ≤ (rn2 : Int)) = false := by simp; omega
      have hke : k = (z ++ zs).length / 128 := by omega
      have HFin : Hid (∃ O', WrM wr p O' tb (fr T (z ++ zs) ((z ++ zs).length / 128)) (rest (z ++ zs)) ∧ Fr O w wr ∧ Gr O O' w) := by
        refine ⟨O2, ?_, hFr, hG⟩
        unfold rest
        rw [← hke]; exact hW0
      clear hd hF hR h5 h6 h7 hO2 hFr hG hW0 HD HF HR H5 H6 hke
      go_wp2
      go_ret
      exact ⟨rfl, HFin.out⟩

set_option maxRecDepth 100000 in
set_option maxHeartbeats 400000 in
theorem metaDone_any (p tb : Nat) (O : Nat → Prop) (T : Nat → Nat) (z : List Int) (w : World) (h : WrM w p O tb (fr T z (z.length / 128)) (rest z)) (hT : Tb w tb T) (htb : tb < w.heap.size) (hS : Small T) (hz : z.length ≤ 100000) :
    Calls Try.prog 22 #[.pointer (some ⟨p, 0, none⟩)] w fun r w' => ∃ ao c, r = .returned (.slice ao (done T z).length c) ∧ Fresh w w' ao (done T z).length c (done T z) := by
  obtain ⟨fo, fn, fc, ro, rn, rc, hd, hO, hF, hR, h5, h6, h7⟩ := h
  have hfl := fr_length T z (z.length / 128)
  have hfn := hF.1
  have hrn := hR.1
  have hrl := rest_length z
  have hfb : fn ≤ 110000 := by omega
  have hrb : rn < 128 := by omega
  have c1 := hd.c1
  have c2 := hd.c2
  have HR := hide hR
  have HC := hide (CloneRw_any fn fc fo (fr T z (z.length / 128)) w hF.bs hF.2.2.1 hF.nil (by omega))
  have HQ := hide (fun (w1 : World) (hb1 : Below w.heap.size w w1) => frameOf_any p tb rn rc fn fc rn rc fo ro ro T (rest z) w1 (hd.fr (Fr.of_below (S := fun _ => False) hb1) id) (hT.below hb1 htb) (Nat.lt_of_lt_of_le htb hb1.size) hS (hR.bs.below hb1) hR.2.2.1 hR.nil (by omega))
  have HW := hide (fun (w1 : World) (hb1 : Below w.heap.size w w1) => hd.fr (Fr.of_below (S := fun _ => False) hb1) id)
  by_cases h0 : rn = 0
  · subst h0
    have hnil : rest z = [] := List.eq_nil_of_length_eq_zero hrn
    have HD : Hid (done T z = fr T z (z.length / 128)) := done_full T hnil
    have HL : Hid ((fr T z (z.length / 128)).length = fn) := hfn
    clear hd hF hR h5 h6 h7 hT hS hO hfn hrn hrl hfl hnil
    go_enter Try.func22, Try.ntmps22
    go_wp2_with fail
    refine HC.out.mono ?_
    rintro r w1 ⟨ao1, k1, rfl, hA, hb1⟩
    have c21 := (HW.out w1 hb1).c2
    have HA := hide hA
    have HB1 := hide hb1
    clear hA hb1 HC
    go_wp2
    go_ret
    refine ⟨ao1, k1, by rw [HD.out, HL.out]; rfl, ?_⟩
    rw [HD.out, HL.out]
    have hm := HA.out.2.2.2.1
    unfold maxLen at hm
    exact ⟨HA.out.bs, HA.out.2.2.1, by omega, HA.out.nil, HB1.out, fun a ha => (HA.out.own (k := a.block) (by rw [ha]; rfl)).1⟩
  · have hne : rest z ≠ [] := fun e => by rw [e] at hrn; simp at hrn; omega
    have HD : Hid (done T z = fr T z (z.length / 128) ++ put T (rest z)) := done_part T hne
    have hpl := (put_length (T := T) (b := rest z) (by omega)).2.2
    have HL : Hid ((fr T z (z.length / 128)).length = fn) := hfn
    have h0' : ((rn : Int) == 0) = false := by simp; omega
    clear hd hF hR h5 h6 h7 hT hS hO hfn hrn hrl hfl hne
    generalize put T (rest z) = P at *
    obtain ⟨m, hm⟩ : ∃ m, P.length = m := ⟨_, rfl⟩
    have HM := hide hm
    rw [hm] at hpl HQ
    clear hm
    go_enter Try.func22, Try.ntmps22
    go_wp2_with fail
    refine HC.out.mono ?_
    rintro r w1 ⟨ao1, k1, rfl, hA, hb1⟩
    have c21 := (HW.out w1 hb1).c2
    have HA := hide hA
    have HB1 := hide hb1
    clear hA HC
    go_wp2_with fail
    refine (HQ.out w1 hb1).mono ?_
    rintro r w2 ⟨ao2, k2, rfl, hN⟩
    have HN := hide hN
    have HA2 := hide (HA.out.fr (Fr.of_below (S := fun _ => False) hN.bel) (fun _ _ => id))
    clear hN HQ hb1 c21
    go_wp2_with (first
      | (at_builtin; refine wpList_append_rw _ rfl (.tmp 16) (.tmp 22) rfl w.heap.size ao1 fn k1 (fr T z (z.length / 128)) rfl HA2.out ao2 m k2 P rfl HN.out.bs HN.out.nil (by omega) (Nat.le_trans HB1.out.size HN.out.bel.size) ?_; intro ao3 k3 w3 hA3 hg3 hl3))
    go_ret
    have hb3 : Below w.heap.size w w3 := (HB1.out.trans (HN.out.bel.mono HB1.out.size)).trans ((Fr.of_grown (S := fun k => w.heap.size ≤ k) hg3 (fun k hk => (HA2.out.own hk).1)).below w.heap.size (Nat.le_trans HB1.out.size HN.out.bel.size) (fun k h => h))
    have hm3 := hA3.2.2.2.1
    unfold maxLen at hm3
    have hlm : (done T z).length = fn + m := by rw [HD.out, List.length_append, HL.out, HM.out]
    refine ⟨ao3, k3, by rw [hlm]; rfl, ?_⟩
    rw [hlm, HD.out]
    exact ⟨hA3.bs, hA3.2.2.1, by omega, hA3.nil, hb3, fun a ha => (hA3.own (k := a.block) (by rw [ha]; rfl)).1⟩
end Go.Proofs.Ytmhgjilpgbkaaaa

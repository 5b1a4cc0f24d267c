/- Layer 13: Add, by the reference. -/
import Derived.Test.YtgmkldfjbjnkcaaFrgRefPack
namespace Go.Proofs.Ytgmkldfjbjnkcaa
set_option linter.unusedVariables false
open Go.RowKit Go.Maps
open Lz (g)
open Frm Mtr Frg

/-- What the reference's Add answers, and leaves. -/
def RFAdds (L : Bl) (z : List Int) (q : Nat) (O : Nat → Prop) (w w' : World) (e : Ending) : Prop :=
  e = .returned (.tuple #[.int .i64 ((add L z).2.1 : Nat), .int .i64 ((add L z).2.2 : Nat)]) ∧ ∃ O', PkZ w' q O' (add L z).1 ∧ Fr O w w' ∧ Gr O O' w
/-- Where many orders come to one place: what follows is shown once. -/
theorem joinT {F G : World → Option Addr → Nat → Option Addr → Nat → Prop} {T : Prop} (h : (∀ w a k b m, F w a k b m → G w a k b m) → T) (h2 : ∀ w a k b m, F w a k b m → G w a k b m) : T := h h2
theorem joinP {F G : World → World → Nat → Nat → Option Addr → Nat → Prop} {T : Prop} (h : (∀ v w a k b m, F v w a k b m → G v w a k b m) → T) (h2 : ∀ v w a k b m, F v w a k b m → G v w a k b m) : T := h h2
theorem PkZ'.pushed {w wa w2 : World} {q ln' lc' : Nat} {lo' : Option Addr} {O : Nat → Prop} {Z : List Zn} {L : Bl} {x : Zn} (hb : Below w.heap.size w wa) (hz : znb Z = L) (hx : Rw wa w.heap.size x.a x.b.length x.c x.b)
    (h : ∃ O', PkZ' w2 q O' (Z ++ [x]) lo' ln' lc' ∧ Fr O wa w2 ∧ (∀ k, O' k → O k ∨ (Value.slice x.a x.b.length x.c).ownBlock = some k ∨ wa.heap.size ≤ k)) : ∃ O', PkZ w2 q O' (L ++ [x.b]) ∧ Fr O w w2 ∧ Gr O O' w := by
  obtain ⟨O', h1, h2, h3⟩ := h
  refine ⟨O', ⟨_, _, _, _, by rw [znb_append, hz]; rfl, h1⟩, (Fr.of_below hb).then h2, fun k hk => ?_⟩
  rcases h3 k hk with hk | hk | hk
  · exact .inl hk
  · exact .inr (hx.own hk).1
  · exact .inr (Nat.le_trans hb.size hk)
theorem PkZ'.turned {w wa w2 : World} {q ln' lc' i : Nat} {lo' : Option Addr} {O : Nat → Prop} {Z : List Zn} {K : Bl} {t z : List Int} {x : Zn} (hb : Below w.heap.size w wa) (hz : znb Z = K ++ [t]) (hi : K.length = i) (hxb : x.b = t ++ z) (hx : Rw wa w.heap.size x.a x.b.length x.c x.b)
    (h : ∃ O', PkZ' w2 q O' (Z.set i x) lo' ln' lc' ∧ Fr O wa w2 ∧ (∀ k, O' k → O k ∨ (Value.slice x.a x.b.length x.c).ownBlock = some k)) : ∃ O', PkZ w2 q O' (K ++ [t ++ z]) ∧ Fr O w w2 ∧ Gr O O' w := by
  obtain ⟨O', h1, h2, h3⟩ := h
  refine ⟨O', ⟨_, _, _, _, ?_, h1⟩, (Fr.of_below hb).then h2, fun k hk => ?_⟩
  · have e : znb (Z.set i x) = (znb Z).set i x.b := by simp [znb, List.map_set]
    rw [e, hz, ← hi, hxb]
    simp
  · rcases h3 k hk with hk | hk
    · exact .inl hk
    · exact .inr (hx.own hk).1
set_option maxRecDepth 100000 in
set_option maxHeartbeats 1000000 in
theorem refFAdd_any (q n c : Nat) (O : Nat → Prop) (ao : Option Addr) (L : Bl) (z : List Int) (w : World) (h : PkZ w q O L) (hk : Ok L) (hb : Bs w ao n z) (hnil : ao = none → c = 0) (hL : L.length ≤ 100000) (hn : n ≤ 9223372036854775807) :
    Calls Try.prog 11 #[.pointer (some ⟨q, 0, none⟩), .slice ao n c] w fun e w' => RFAdds L z q O w w' e := by
  obtain ⟨i1, hi1, hz0, hz1, hz2⟩ := info_parts infoBytes
  have hz := hb.1
  by_cases hbad : z.length < 1 ∨ 128 ≤ z.length
  · have HA : Hid (RFAdds L z q O w w (.returned (.tuple #[.int .i64 0, .int .i64 0]))) := by
      show RFAdds L z q O w w _
      unfold RFAdds
      rw [add_bad hbad]
      exact ⟨rfl, O, h, Fr.refl _ _, Gr.refl _ _⟩
    have hc : n = 0 ∨ (decide ((n : Int) < 1) = false ∧ ¬ (n : Int) < 1 ∧ (128 : Int) ≤ (n : Int)) := by
      by_cases e : n = 0
      · exact .inl e
      · exact .inr ⟨by simp; omega, by omega, by omega⟩
    clear h hb hz hbad
    rcases hc with rfl | ⟨h1, h2, h3⟩
    all_goals
      go_enter Try.func11, Try.ntmps11
      go_wp2
      go_ret2
      exact HA.out
  · obtain ⟨Z, lo, ln, lc, hZL, hq⟩ := h
    have hln : ln = L.length := by rw [← hZL, znb_length, hq.len]
    have c0 := hq.zk.c0
    have c0b : ∀ o : Obj, (w.alloc o).cell? ⟨q, 0, none⟩ = some (.slice lo ln lc) := fun o => (hq.below (below_one w o)).zk.c0
    have HZ := hide hq
    have HZL := hide hZL
    have HB := hide hb
    have HN := hide hnil
    have hn1 : 1 ≤ n ∧ n ≤ 127 := by omega
    have HZn := hide hz
    have d1 : decide ((n : Int) < 1) = false := by simp; omega
    have d1' : ¬ (n : Int) < 1 := by omega
    have d2 : decide ((128 : Int) ≤ (n : Int)) = false := by simp; omega
    have d2' : ¬ (128 : Int) ≤ (n : Int) := by omega
    have HRe := hide (Rw.of_owns (zs := []) (emptyB (w := w) (B := w.heap.size) (Nat.le_refl _)).drew Bytes.nil)
    have HSe := hide ((hb.alloc (.cells #[] 5)).below (below_drewN (Below.refl _ _) 1))
    rcases add_cases L z with ⟨h1, _⟩ | ⟨_, h2, hadd⟩ | ⟨_, K, t, hLK, h2, hadd⟩
    · exact absurd h1 hbad
    · have HA : Hid (∀ w', (∃ O', PkZ w' q O' (L ++ [z]) ∧ Fr O w w' ∧ Gr O O' w) → RFAdds L z q O w w' (.returned (.tuple #[.int .i64 ((L.length + 1 : Nat) : Int), .int .i64 0]))) := fun w' hw' => by
        unfold RFAdds
        rw [hadd]
        exact ⟨rfl, hw'⟩
      rw [← hln] at HA hL
      by_cases h0 : ln = 0
      · subst h0
        clear hq hb hnil hz hbad hadd hZL h2 hln
        go_enter Try.func11, Try.ntmps11
        go_wp2_with fail
        apply joinP (F := fun _ w6 g6 c6 ao4 k4 => RFAdds L z q O w (w6.setCell ⟨q, 0, none⟩ (.slice (some ⟨g6, 0, none⟩) (0 + 1) c6)) (.returned (.tuple #[.int .i64 ((0 + 1 : Nat) : Int), .int .i64 0])))
        · intro hall
          have HAll := hide hall
          clear hall
          go_region_law ((first
            | (refine step_append_rw (w.alloc (.cells #[] 5)).drew (by rfl) (.tmp 43) (.tmp 44) (by rfl) w.heap.size (some ⟨w.heap.size, 0, none⟩) 0 0 [] (by rfl) HRe.out ao n c z (by rfl) HSe.out HN.out (by omega) (by simp) ?_; intro ao4 k4 w4 hA hg hl; rw [Nat.zero_add] at hA ⊢; rw [List.nil_append] at hA; have HR4 := hide hA; have HB4 : Hid (Below w.heap.size w w4) := (((Below.refl _ w).alloc (Nat.le_refl _) _).drew).grown hg (by simp) (fun k e => (HRe.out.own e).1); have c4 := (HZ.out.below HB4.out).zk.c0; have c4b := (fun (o : Obj) => ((HZ.out.below HB4.out).below (below_one w4 o)).zk.c0); have HZ4 := hide ((HZ.out.below HB4.out).below (below_one w4 (.cells #[.slice ao4 n k4] 30))); have HR4b : Hid (Rw (w4.alloc (.cells #[.slice ao4 n k4] 30)) w.heap.size ao4 n k4 z) := HR4.out.fr (Fr.of_below (S := fun _ => False) (below_one w4 _)) (fun _ _ => id); clear hA hg hl)
            | (refine step_append_lies (w4.alloc (.cells #[.slice ao4 n k4] 30)) (by rfl) (.tmp 42) (.tmp 46) 22 (by rfl) 0 30 i1 (.slice none 0 0) 1 24 Try.underlying22 hi1 hz0 hz1 hz2 rfl (by decide) _ _ _ (by rfl) HZ4.out.row ⟨w4.heap.size, 0, none⟩ 1 1 [.slice ao4 n k4] (by rfl) (by rfl) (cell_one_new w4 _ _) (fun u hu => by simp at hu; subst hu; rfl) (by decide) (by unfold maxLen; omega) (by omega) (Nat.zero_le _) (w4.heap.size + 1) (by simp) ?_; intro g6 c6 w6 o6 k6 l6 _; have HX6 := hide (HZ4.out.push (x := ⟨ao4, k4, z⟩) (by show Rw _ 0 ao4 z.length k4 z; rw [HZn.out]; exact HR4b.out.mono (Nat.zero_le _)) (by rw [show znc ⟨ao4, k4, z⟩ = .slice ao4 n k4 by unfold znc; rw [HZn.out]]; exact o6) k6 (l6.imp id (fun h => by rw [h]; simp))); have c66 := HX6.out.1.c0; have f66 := HX6.out.1.f 0; clear o6 k6 l6)))
          all_goals exact HAll.out w4 w6 g6 c6 ao4 k4 (HA.out _ (PkZ'.pushed (x := ⟨ao4, k4, z⟩) (HB4.out.alloc HB4.out.size _) HZL.out (by show Rw _ w.heap.size ao4 z.length k4 z; rw [HZn.out]; exact HR4b.out) HX6.out.2))
        · rintro w4 w6 g6 c6 ao4 k4 hF
          have HF := hide hF
          clear hF HA
          go_wp2
          go_ret2
          exact HF.out
      · obtain ⟨K', t', hL', hlt⟩ : ∃ K' t', L = K' ++ [t'] ∧ 128 < t'.length + z.length := by
          rcases h2 with h2 | h2
          · rw [h2] at hln; exact absurd hln h0
          · exact h2
        obtain ⟨Y, x', hZY, hYK, hxt⟩ := znb_split (hZL.trans hL')
        obtain ⟨r, hr⟩ : ∃ r, Y.length = r := ⟨_, rfl⟩
        have hrl : r + 1 = ln := by rw [← hq.len, hZY, List.length_append, hr]; rfl
        obtain ⟨lb, c', hv, _, _⟩ := hq.row.form (by omega)
        obtain ⟨rfl, rfl⟩ : lo = some ⟨lb, 0, none⟩ ∧ lc = c' := by simpa using hv
        have hcy := hq.row.cellAt r (by omega)
        have hcy2 : w.cell? ⟨lb, r, none⟩ = some (.slice x'.a t'.length x'.c) := by
          rw [hcy, hZY, znv_append, List.getElem?_append_right (by rw [znv_length]; omega), znv_length, hr, Nat.sub_self]
          simp [znv, znc, hxt]
        obtain ⟨y, hy⟩ : ∃ y, t'.length = y := ⟨_, rfl⟩
        rw [hy] at hcy2
        have hy128 : y ≤ 128 := by
          have := hk t' (by rw [hL']; simp)
          omega
        have e1 : IntKind.i64.wrap ((ln : Int) - 1) = (r : Int) := by rw [IntKind.wrap_i64]; omega
        have e2 : IntKind.i64.wrap ((y : Int) + (n : Int)) = (y : Int) + n := by rw [IntKind.wrap_i64]; omega
        have e3 : (128 : Int) < (y : Int) + n := by omega
        have e4 : (r : Int) < (ln : Int) := by omega
        have e5 : IntKind.i64.wrap ((r : Int) + 2) = ((ln + 1 : Nat) : Int) := by rw [IntKind.wrap_i64]; omega
        clear hq hb hnil hz hbad hadd hZL h2 hln h0 hL' hZY hYK hxt hr hrl hv hcy hy hlt
        go_enter Try.func11, Try.ntmps11
        go_wp2_with fail
        apply joinP (F := fun _ w6 g6 c6 ao4 k4 => RFAdds L z q O w (w6.setCell ⟨q, 0, none⟩ (.slice (some ⟨g6, 0, none⟩) (ln + 1) c6)) (.returned (.tuple #[.int .i64 ((ln + 1 : Nat) : Int), .int .i64 0])))
        · intro hall
          have HAll := hide hall
          clear hall
          go_region_law ((first
            | (refine step_append_rw (w.alloc (.cells #[] 5)).drew (by rfl) (.tmp 43) (.tmp 44) (by rfl) w.heap.size (some ⟨w.heap.size, 0, none⟩) 0 0 [] (by rfl) HRe.out ao n c z (by rfl) HSe.out HN.out (by omega) (by simp) ?_; intro ao4 k4 w4 hA hg hl; rw [Nat.zero_add] at hA ⊢; rw [List.nil_append] at hA; have HR4 := hide hA; have HB4 : Hid (Below w.heap.size w w4) := (((Below.refl _ w).alloc (Nat.le_refl _) _).drew).grown hg (by simp) (fun k e => (HRe.out.own e).1); have c4 := (HZ.out.below HB4.out).zk.c0; have c4b := (fun (o : Obj) => ((HZ.out.below HB4.out).below (below_one w4 o)).zk.c0); have HZ4 := hide ((HZ.out.below HB4.out).below (below_one w4 (.cells #[.slice ao4 n k4] 30))); have HR4b : Hid (Rw (w4.alloc (.cells #[.slice ao4 n k4] 30)) w.heap.size ao4 n k4 z) := HR4.out.fr (Fr.of_below (S := fun _ => False) (below_one w4 _)) (fun _ _ => id); clear hA hg hl)
            | (refine step_append_lies (w4.alloc (.cells #[.slice ao4 n k4] 30)) (by rfl) (.tmp 42) (.tmp 46) 22 (by rfl) 0 30 i1 (.slice none 0 0) 1 24 Try.underlying22 hi1 hz0 hz1 hz2 rfl (by decide) _ _ _ (by rfl) HZ4.out.row ⟨w4.heap.size, 0, none⟩ 1 1 [.slice ao4 n k4] (by rfl) (by rfl) (cell_one_new w4 _ _) (fun u hu => by simp at hu; subst hu; rfl) (by decide) (by unfold maxLen; omega) (by omega) (Nat.zero_le _) (w4.heap.size + 1) (by simp) ?_; intro g6 c6 w6 o6 k6 l6 _; have HX6 := hide (HZ4.out.push (x := ⟨ao4, k4, z⟩) (by show Rw _ 0 ao4 z.length k4 z; rw [HZn.out]; exact HR4b.out.mono (Nat.zero_le _)) (by rw [show znc ⟨ao4, k4, z⟩ = .slice ao4 n k4 by unfold znc; rw [HZn.out]]; exact o6) k6 (l6.imp id (fun h => by rw [h]; simp))); have c66 := HX6.out.1.c0; have f66 := HX6.out.1.f 0; clear o6 k6 l6)))
          all_goals exact HAll.out w4 w6 g6 c6 ao4 k4 (HA.out _ (PkZ'.pushed (x := ⟨ao4, k4, z⟩) (HB4.out.alloc HB4.out.size _) HZL.out (by show Rw _ w.heap.size ao4 z.length k4 z; rw [HZn.out]; exact HR4b.out) HX6.out.2))
        · rintro w4 w6 g6 c6 ao4 k4 hF
          have HF := hide hF
          clear hF HA
          go_wp2
          go_ret2
          exact HF.out
    · have HA : Hid (∀ w', (∃ O', PkZ w' q O' (K ++ [t ++ z]) ∧ Fr O w w' ∧ Gr O O' w) → RFAdds L z q O w w' (.returned (.tuple #[.int .i64 ((K.length + 1 : Nat) : Int), .int .i64 ((t.length : Nat) : Int)]))) := fun w' hw' => by
        unfold RFAdds
        rw [hadd]
        exact ⟨rfl, hw'⟩
      have HZK : Hid (znb Z = K ++ [t]) := by rw [hZL]; exact hLK
      obtain ⟨Y, x', hZY, hYK, hxt⟩ := znb_split HZK.out
      obtain ⟨r, hr⟩ : ∃ r, K.length = r := ⟨_, rfl⟩
      have hYr : Y.length = r := by rw [← hr, ← hYK, znb_length]
      have hrl : r + 1 = ln := by rw [← hq.len, hZY, List.length_append, hYr]; rfl
      obtain ⟨lb, c', hv, _, hlb⟩ := hq.row.form (by omega)
      obtain ⟨rfl, rfl⟩ : lo = some ⟨lb, 0, none⟩ ∧ lc = c' := by simpa using hv
      have hcy := hq.row.cellAt r (by omega)
      have hcy2 : w.cell? ⟨lb, r, none⟩ = some (.slice x'.a t.length x'.c) := by
        rw [hcy, hZY, znv_append, List.getElem?_append_right (by rw [znv_length]; omega), znv_length, hYr, Nat.sub_self]
        simp [znv, znc, hxt]
      have hxr := (hq.each x' (by rw [hZY]; simp)).1
      rw [hxt] at hxr
      obtain ⟨y, hy⟩ : ∃ y, t.length = y := ⟨_, rfl⟩
      rw [hy] at hcy2 hxr HA
      rw [hr] at HA
      have HKr := hide hr
      have HTy := hide hy
      have HXb := hide ((hxr.bs.alloc (.cells #[] 5)).below (below_drewN (Below.refl _ _) 1))
      have HXn := hide hxr.nil
      have hy128 : y + n ≤ 128 := by omega
      have hcyb : ∀ o : Obj, (w.alloc o).cell? ⟨lb, r, none⟩ = some (.slice x'.a y x'.c) := fun o => ((below_one w o).cell (p := ⟨lb, r, none⟩) hlb).trans hcy2
      have HCy : Hid (∀ wX, Below w.heap.size w wX → wX.cell? ⟨lb, r, none⟩ = some (.slice x'.a y x'.c) ∧ wX.frozen? ⟨lb, r, none⟩ = false) := fun wX hX => ⟨(hX.cell (p := ⟨lb, r, none⟩) hlb).trans hcy2, (hq.below hX).row.frozenAt r⟩
      have e1 : IntKind.i64.wrap ((ln : Int) - 1) = (r : Int) := by rw [IntKind.wrap_i64]; omega
      have e2 : IntKind.i64.wrap ((y : Int) + (n : Int)) = (y : Int) + n := by rw [IntKind.wrap_i64]; omega
      have e3 : ¬ (128 : Int) < (y : Int) + n := by omega
      have e3' : decide ((128 : Int) < (y : Int) + n) = false := by simp; omega
      have e4 : (r : Int) < (ln : Int) := by omega
      have e5 : IntKind.i64.wrap ((r : Int) + 1) = ((r + 1 : Nat) : Int) := by rw [IntKind.wrap_i64]; omega
      clear hq hb hnil hz hbad hadd hZL h2 hln hLK hZY hYK hxt hr hrl hv hcy hy hYr hxr hlb
      go_enter Try.func11, Try.ntmps11
      go_wp2_with fail
      apply joinT (F := fun w5 ao5 k5 _ _ => Below w.heap.size w w5 ∧ Rw w5 w.heap.size ao5 (y + n) k5 (t ++ z))
      · intro hall
        have HAll := hide hall
        clear hall
        go_region_law ((first
          | (refine step_append_rw (w.alloc (.cells #[] 5)).drew (by rfl) (.tmp 65) (.tmp 72) (by rfl) w.heap.size (some ⟨w.heap.size, 0, none⟩) 0 0 [] (by rfl) HRe.out x'.a y x'.c t (by rfl) HXb.out HXn.out (by omega) (by simp) ?_; intro ao4 k4 w4 hA hg hl; rw [Nat.zero_add] at hA ⊢; rw [List.nil_append] at hA; have HR4 := hide hA; have HB4 : Hid (Below w.heap.size w w4) := (((Below.refl _ w).alloc (Nat.le_refl _) _).drew).grown hg (by simp) (fun k e => (HRe.out.own e).1); have c4 := (HZ.out.below HB4.out).zk.c0; have y4 := (HCy.out w4 HB4.out).1; clear hA hg hl)
          | (refine step_append_rw w4 (by rfl) (.tmp 73) (.tmp 74) (by rfl) w.heap.size ao4 y k4 t (by rfl) HR4.out ao n c z (by rfl) (HB.out.below HB4.out) HN.out (by omega) HB4.out.size ?_; intro ao5 k5 w5 hA hg hl; have HR5 := hide hA; have HB5 : Hid (Below w.heap.size w w5) := HB4.out.grown hg HB4.out.size (fun k e => (HR4.out.own e).1); have c5 := (HZ.out.below HB5.out).zk.c0; have y5 := (HCy.out w5 HB5.out).1; have f5 := (HCy.out w5 HB5.out).2; clear hA hg hl)))
        all_goals exact HAll.out w5 ao5 k5 ao4 k4 ⟨HB5.out, HR5.out⟩
      · rintro w5 ao5 k5 ao4 k4 ⟨hB5, hR5⟩
        have HF : Hid (RFAdds L z q O w (w5.setCell ⟨lb, r, none⟩ (.slice ao5 (y + n) k5)) (.returned (.tuple #[.int .i64 ((r + 1 : Nat) : Int), .int .i64 ((y : Nat) : Int)]))) := by
          have hl : (t ++ z).length = y + n := by rw [List.length_append, HTy.out, HZn.out]
          have h1 := (HZ.out.below hB5).turn (x := ⟨ao5, k5, t ++ z⟩) (by show Rw w5 0 ao5 (t ++ z).length k5 (t ++ z); rw [hl]; exact hR5.mono (Nat.zero_le _)) r
          rw [show znc ⟨ao5, k5, t ++ z⟩ = .slice ao5 (y + n) k5 by unfold znc; rw [hl]] at h1
          exact HA.out _ (PkZ'.turned (x := ⟨ao5, k5, t ++ z⟩) hB5 HZK.out HKr.out rfl (by show Rw w5 w.heap.size ao5 (t ++ z).length k5 (t ++ z); rw [hl]; exact hR5) h1)
        clear HA hR5 hB5
        go_wp2
        go_ret2
        exact HF.out
end Go.Proofs.Ytgmkldfjbjnkcaa

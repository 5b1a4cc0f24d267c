/- What the proof stands on: DirPut, with what the proof reaches of it. -/
import Derived.Test.YtoohanojfoichaaGreatDoorSJDirRow
import Derived.Deep.WholeRow
import Derived.Laws.Tables

/- Layer 10: Put, by the program. -/
namespace Go.Proofs.YtoohanojfoichaaGreatDoor
set_option linter.unusedVariables false
set_option maxRecDepth 100000
open Go.RowKit Go.Maps
open Nam Cur Cap Dir

namespace Dir
theorem WrP.fr {S : Nat → Prop} {w w' : World} {p B : Nat} {v : Value} {s : St} (h : WrP w p B v s) (hf : Fr S w w') (hp : ¬ S p) (hv : ∀ k, v.ownBlock = some k → ¬ S k) : WrP w' p B v s := by
  obtain ⟨ao, n, c, rfl, h1, h2, h3⟩ := h
  exact ⟨ao, n, c, rfl, h1.fr hf hp, owns_fr h2 hf hv, h3⟩
/-- A writer at p and newList's variable at q, since w0. -/
structure PW (w0 : World) (p q : Nat) (zs : List Int) (s : ByteArray) (w : World) : Prop where
  wr : ∃ v, WrP w p w0.heap.size v (zs, 0)
  cl : Cl w q s
  bel : Below w0.heap.size w0 w
  hp : w0.heap.size ≤ p
  hq : w0.heap.size ≤ q
theorem PW.below {w0 w w' : World} {p q : Nat} {zs : List Int} {s : ByteArray} (h : PW w0 p q zs s w) (hb : Below w.heap.size w w') : PW w0 p q zs s w' := by
  obtain ⟨v, hv⟩ := h.wr
  exact ⟨⟨v, hv.below hb⟩, h.cl.below hb, h.bel.trans (hb.mono h.bel.size), h.hp, h.hq⟩
/-- The same with an entry at x. -/
structure PX (w0 : World) (p q x : Nat) (E : Ent) (zs : List Int) (s : ByteArray) (w : World) : Prop where
  pw : PW w0 p q zs s w
  ob : w.heap[x]? = some (.cells (ev E) 199 (0, 0))
theorem PX.cell {w0 w : World} {p q x : Nat} {E : Ent} {zs : List Int} {s : ByteArray} (h : PX w0 p q x E zs s w) (k : Nat) : w.cell? ⟨x, k, none⟩ = (ev E)[k]? := cell_of_row _ _ _ _ _ _ h.ob
theorem PW.new {w0 w w' : World} {p q : Nat} {zs : List Int} {s : ByteArray} (h : PW w0 p q zs s w) (E : Ent) (hw : w' = w.alloc (.cells (ev E) 199)) : PX w0 p q w.heap.size E zs s w' := by
  subst hw
  exact ⟨h.below (below_one _ _), heap_new rfl⟩
theorem PX.goes {w0 w w' : World} {p q x : Nat} {E : Ent} {zs : List Int} {s t : ByteArray} (h : PX w0 p q x E zs s w) (hc : Cl w' q t) (hf : Fr (One q) w w') : PX w0 p q x E zs t w' := by
  obtain ⟨v, hv⟩ := h.pw.wr
  obtain ⟨ao, n, c, rfl, hd, ho, h3⟩ := id hv
  have n1 : p ≠ q := ne_obj hd h.pw.cl (by decide)
  have n2 : x ≠ q := ne_obj h.ob h.pw.cl (by decide)
  refine ⟨⟨⟨_, WrP.fr hv hf n1 (fun k hk hx => ?_)⟩, hc, h.pw.bel.trans (hf.one_below h.pw.bel.size h.pw.hq), h.pw.hp, h.pw.hq⟩, (hf.block _ (heap_lt h.ob) n2).trans h.ob⟩
  obtain ⟨cur, hcur⟩ := owns_obj ho hk
  have : k = q := hx
  exact ne_obj hcur h.pw.cl (by decide) this
theorem PX.wrote {w0 w w' : World} {p q x : Nat} {E : Ent} {zs zs' : List Int} {s : ByteArray} {v : Value} (h : PX w0 p q x E zs s w) (hv : WrP w p w0.heap.size v (zs, 0)) (hD : WrDone w w' p w0.heap.size v (zs', 0)) : PX w0 p q x E zs' s w' := by
  obtain ⟨v', h1, hf, h3⟩ := hD
  have hb := hv.base
  obtain ⟨ao, n, c, rfl, hd, ho, _⟩ := hv
  have n1 : q ≠ p := ne_obj h.pw.cl hd (by decide)
  have n2 : x ≠ p := ne_obj h.ob hd (by decide)
  have n3 : ∀ k, (Value.slice ao n c).ownBlock = some k → q ≠ k ∧ x ≠ k := fun k hk => by
    obtain ⟨cur, hcur⟩ := owns_obj ho hk
    exact ⟨ne_obj h.pw.cl hcur (by decide), ne_obj h.ob hcur (by decide)⟩
  refine ⟨⟨⟨v', h1⟩, h.pw.cl.fr hf (fun hx => ?_), h.pw.bel.trans (hf.two_below h.pw.bel.size h.pw.hp hb), h.pw.hp, h.pw.hq⟩, (hf.block _ (heap_lt h.ob) (fun hx => ?_)).trans h.ob⟩
  · rcases hx with hx | hx
    · exact n1 hx
    · exact (n3 _ hx).1 rfl
  · rcases hx with hx | hx
    · exact n2 hx
    · exact (n3 _ hx).2 rfl
end Dir
theorem px_num (w0 : World) (p q x : Nat) (E : Ent) (zs : List Int) (s : ByteArray) (y m : Int) (n : Nat) (w : World) (h : PX w0 p q x E zs s w) (hl : zs.length ≤ 900000) (hm : m = (n : Int)) (h1 : 1 ≤ n) (h4 : n ≤ 4) (h0 : 0 ≤ y) (hx : y < 256 ^ n) :
    Calls Tryz.prog 64 #[.pointer (some ⟨p, 0, none⟩), .int .i64 y, .int .i64 m] w fun r w' => r = .returned (.tuple #[]) ∧ PX w0 p q x E (zs ++ by' n y) s w' := by
  obtain ⟨v, hv⟩ := h.pw.wr
  have h5 : (256 : Int) ^ n ≤ 256 ^ 4 := pow256 h4
  refine (wNum_any p w0.heap.size v y m (zs, 0) w hv h.pw.bel.size (by simp; omega) (by omega) (by omega)).mono ?_
  rintro r w' ⟨rfl, hD⟩
  rw [wNum_ok zs m n y hm h1 h4 h0 hx] at hD
  exact ⟨rfl, h.wrote hv hD⟩
theorem px_text (w0 : World) (p q x : Nat) (E : Ent) (zs : List Int) (s t : ByteArray) (w : World) (h : PX w0 p q x E zs s w) (hl : zs.length ≤ 900000) (ht : t.size ≤ 255) :
    Calls Tryz.prog 139 #[.pointer (some ⟨p, 0, none⟩), .string t] w fun r w' => r = .returned (.tuple #[]) ∧ PX w0 p q x E (zs ++ ((t.size : Int) :: sb t)) s w' := by
  obtain ⟨v, hv⟩ := h.pw.wr
  refine (wText_any p w0.heap.size v t (zs, 0) w hv h.pw.bel.size (by simp; omega) (by omega)).mono ?_
  rintro r w' ⟨rfl, hD⟩
  rw [wTxt_ok zs t ht] at hD
  exact ⟨rfl, h.wrote hv hD⟩
/-- What Put answers. -/
def DPuts (L : List Ent) (w : World) (r : Ending) (w' : World) : Prop :=
  (may L = true ∧ ∃ ao c, r = .returned (.tuple #[.slice ao (putB L).length c, .int .i64 0]) ∧ New w w' ao (putB L).length c (putB L)) ∨
  (may L = false ∧ r = .returned (.tuple #[.slice none 0 0, .int .i64 1]) ∧ Below w.heap.size w w')
set_option maxHeartbeats 2000000 in
theorem dPut_any (a : Option Addr) (n c : Nat) (L : List Ent) (w : World) (hl : Es w a n L) (hc : n ≤ c) (hcm : c ≤ 9223372036854775807) (hn : n ≤ 3000) :
    Calls Tryz.prog 136 #[.slice a n c] w fun r w' => DPuts L w r w' := by
  obtain ⟨w1, hw1⟩ : ∃ w1, w1 = w.alloc (.cells #[.slice none 0 0, .int .i64 0] 120) := ⟨_, rfl⟩
  have HL := hide hl
  have HLN := hide hl.1
  have HB1 : Hid (Below w.heap.size w w1) := by rw [hw1]; exact below_one _ _
  have HWr : Hid (WrP w1 w.heap.size w.heap.size (.slice none 0 0) ([], 0)) := by rw [hw1]; exact WrP.new w w.heap.size
  have HW1 := hide hw1
  clear hl hw1
  go_enter Tryz.func136, Tryz.ntmps136
  go_wp2_with fail
  rw [← HW1.out]
  refine (newList_any w1).mono ?_
  rintro r w2 ⟨q, rfl, hC2, hq, hb2⟩
  have HP0 : Hid (PW w w.heap.size q [] em w2) := ⟨⟨_, HWr.out.below hb2⟩, hC2, HB1.out.trans (hb2.mono HB1.out.size), Nat.le_refl _, Nat.le_trans HB1.out.size hq⟩
  clear hC2 hb2 hq HW1 HWr
  go_wp2_with fail
  go_loopw [7, 11] (fun _ r wr => ∃ i : Nat, r = .int .i64 i ∧ i ≤ n ∧ PW w w.heap.size q (putB (L.take i)) (pv L i) wr ∧ may L = rise (pv L i) (L.drop i) ∧ (∀ E ∈ L.take i, fit E)) (fun _ r _ => n - (intOf r).toNat)
  case atStart => exact ⟨0, rfl, Nat.zero_le _, HP0.out, rfl, by simp⟩
  case round =>
    clear HP0
    obtain ⟨i, rfl, hi0, hP, hinv, hfit⟩ := hrel
    have HI := hide hinv
    have HP := hide hP
    have HFt := hide hfit
    have hzl : (putB (L.take i)).length ≤ 783000 := by
      have := putB_length hfit
      have h2 : (L.take i).length ≤ i := by simp; omega
      omega
    obtain ⟨zs, hzs⟩ : ∃ zs, zs = putB (L.take i) := ⟨_, rfl⟩
    rw [← hzs] at HP hzl
    have HZ := hide hzs
    clear hinv hfit hP hzs
    by_cases hi : i < n
    · have hd : decide ((i : Int) < n) = true := by simpa using hi
      obtain ⟨ba, oa, rfl, hba, hca⟩ := (HL.out.below HP.out.bel).at (by omega)
      have hx := hca i hi
      obtain ⟨E, hE⟩ : ∃ E, E = gl L i := ⟨_, rfl⟩
      rw [← hE] at hx
      have HEE := hide hE
      obtain ⟨c0, c1, c2⟩ := range_cells hx
      obtain ⟨wx, hwx⟩ : ∃ wx, wx = wr.alloc (.cells (ev E) 199) := ⟨_, rfl⟩
      have HX := hide (HP.out.new E hwx)
      have HWX := hide hwx
      have HG := hide (goesOn_any E q (pv L i) wx HX.out.pw.cl)
      have HR : Hid (rise (pv L i) (L.drop i) = (nx (pv L i) E && rise E.name (L.drop (i + 1)))) := by
        have := rise_drop L i (by rw [HLN.out]; exact hi)
        rw [pv_succ, ← hE] at this
        exact this
      clear hca hx hwx hE
      unfold ev at HWX HG
      go_wp2_with fail
      rw [← HWX.out]
      refine HG.out.mono ?_
      rintro r w3 ⟨rfl, hC3, hF3⟩
      have HX3 := hide (HX.out.goes hC3 hF3)
      obtain ⟨b, hb⟩ : ∃ b, nx (pv L i) E = b := ⟨_, rfl⟩
      rw [hb] at HR ⊢
      have HN := hide hb
      clear hC3 hF3 HG HX HWX c0 c1 c2 hb
      cases b with
      | false =>
        go_wp2
        go_ret2
        exact .inr ⟨by rw [HI.out, HR.out]; rfl, rfl, HX3.out.pw.bel⟩
      | true =>
        have hok : ok E = true := by
          have := HN.out
          unfold nx at this
          rw [Bool.and_eq_true] at this
          exact this.2
        have hft := ok_fit hok
        have HFE := hide hft
        obtain ⟨f1, ⟨f2, f3⟩, f4, f5⟩ := hft
        have c0 : w3.cell? ⟨wr.heap.size, 0, none⟩ = some (.string E.name) := HX3.out.cell 0
        clear hok
        go_wp2_with fail
        refine (px_text w w.heap.size q wr.heap.size E zs E.name E.name w3 HX3.out (by omega) f1).mono ?_
        rintro r w4 ⟨rfl, hX4⟩
        have HX4 := hide hX4
        have c1 : w4.cell? ⟨wr.heap.size, 1, none⟩ = some (.int .i64 E.kind) := hX4.cell 1
        obtain ⟨z4, hz4⟩ : ∃ z4, z4 = zs ++ ((E.name.size : Int) :: sb E.name) := ⟨_, rfl⟩
        have hl4 : z4.length ≤ 784000 := by rw [hz4]; simp [sb_length]; omega
        rw [← hz4] at HX4
        have HZ4 := hide hz4
        clear hX4 hz4 c0 HX3
        go_wp2_with fail
        refine (px_num w w.heap.size q wr.heap.size E z4 E.name E.kind 1 1 w4 HX4.out (by omega) rfl (by omega) (by omega) f2 (by omega)).mono ?_
        rintro r w5 ⟨rfl, hX5⟩
        have HX5 := hide hX5
        have c2 : w5.cell? ⟨wr.heap.size, 2, none⟩ = some (.int .i64 E.ref) := hX5.cell 2
        obtain ⟨z5, hz5⟩ : ∃ z5, z5 = z4 ++ by' 1 E.kind := ⟨_, rfl⟩
        have hl5 : z5.length ≤ 785000 := by rw [hz5]; simp [by_length]; omega
        rw [← hz5] at HX5
        have HZ5 := hide hz5
        clear hX5 hz5 c1 HX4
        go_wp2_with fail
        refine (px_num w w.heap.size q wr.heap.size E z5 E.name E.ref 4 4 w5 HX5.out (by omega) rfl (by omega) (by omega) f4 (by omega)).mono ?_
        rintro r w6 ⟨rfl, hX6⟩
        have HX6 := hide hX6
        clear hX6 c2 HX5
        go_wp2
        refine ⟨⟨i + 1, by go_num, by omega, ?_, ?_, ?_⟩, by simp [intOf]; omega⟩
        · have := HX6.out.pw
          rw [HZ5.out, HZ4.out, HZ.out] at this
          rw [pv_succ, ← HEE.out, take_gl L i (by rw [HLN.out]; exact hi), putB_append, putB_one, ← HEE.out]
          unfold entB
          simpa using this
        · rw [HI.out, HR.out, pv_succ, ← HEE.out]; rfl
        · intro X hX
          rw [take_gl L i (by rw [HLN.out]; exact hi), ← HEE.out] at hX
          rcases List.mem_append.1 hX with h | h
          · exact HFt.out X h
          · simp at h; rw [h]; exact HFE.out
    · have hd : decide ((i : Int) < n) = false := by simpa using hi
      have hin : i = n := by omega
      have HM : Hid (may L = true) := by
        show may L = true
        rw [HI.out, List.drop_eq_nil_of_le (by rw [HLN.out]; omega)]; rfl
      have HZL : Hid (zs = putB L) := by show zs = _; rw [HZ.out, List.take_of_length_le (by rw [HLN.out]; omega)]
      obtain ⟨v, hv⟩ := HP.out.wr
      have HV := hide hv
      have HBr := hide HP.out.bel
      clear hv
      go_wp2_with fail
      refine (DoneNew_any w.heap.size w.heap.size v (zs, 0) wr HV.out (by simp; omega)).mono ?_
      rintro r w3 ⟨ao, c3, rfl, hN⟩
      have HN := hide hN
      obtain ⟨ao0, n0, c0, _, hd0, _⟩ := HV.out.below hN.bel
      have HD0 := hide hd0
      clear hN hd0
      go_wp2_with fail
      refine (Err_any 120 w.heap.size n0 c0 ao0 0 w3 HD0.out).mono ?_
      rintro r w' ⟨rfl, rfl⟩
      go_wp2
      go_ret2
      refine .inl ⟨HM.out, ao, c3, ?_, ?_⟩
      · rw [← HZL.out]; rfl
      · rw [← HZL.out]; exact HN.out.from HBr.out
end Go.Proofs.YtoohanojfoichaaGreatDoor

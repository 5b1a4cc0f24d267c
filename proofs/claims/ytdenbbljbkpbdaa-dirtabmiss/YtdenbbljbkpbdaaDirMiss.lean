/- Layer 10: DirtabMiss: a name that no entry has is not found; lists of which one goes on behind the other are one list, if the names rise. -/
import Derived.Test.YtdenbbljbkpbdaaDirShown
import Derived.Test.YtdenbbljbkpbdaaDirSame
namespace Go.Proofs.Ytdenbbljbkpbdaa
set_option linter.unusedVariables false
set_option maxRecDepth 100000
open Go.RowKit Go.Maps
open Nam Cur Cap Dir

namespace Dir
theorem tk_two {A B : List Ent} (ha : may A = true) (hb : may B = true) : par (putB A ++ putB B) = (A ++ B, true) ∧ tk (putB A ++ putB B) = may (A ++ B) := by
  have h := par_put (may_fit ha) (putB B) (putB_bytes (may_fit hb))
  rw [par_putB (may_fit hb)] at h
  refine ⟨h, ?_⟩
  unfold tk
  rw [h]; rfl
def hasN (s : ByteArray) (L : List Ent) : Bool := L.any fun E => decide (E.name = s)
theorem hasN_snoc (s : ByteArray) (L : List Ent) (E : Ent) : hasN s (L ++ [E]) = (hasN s L || decide (E.name = s)) := by simp [hasN]
theorem name_eq (E : Ent) (s : ByteArray) : (E.name.toList == s.toList) = decide (E.name = s) := by
  rw [Bool.eq_iff_iff, beq_iff_eq, decide_eq_true_eq]
  exact ⟨toList_inj, fun h => by rw [h]⟩
end Dir
set_option maxHeartbeats 4000000 in
theorem miss_walk (a0 : Option Addr) (len0 cap0 : Nat) (L0 : List Ent) (a1 : Option Addr) (len1 cap1 : Nat) (L1 : List Ent) (s2 : ByteArray) (w : World)
    (f0 : Es w a0 len0 L0) (fc0 : len0 ≤ cap0) (fm0 : cap0 ≤ 9223372036854775807) (fi0 : ∀ E ∈ L0, E.In) (fn0 : a0 = none → cap0 = 0)
    (f1 : Es w a1 len1 L1) (fc1 : len1 ≤ cap1) (fm1 : cap1 ≤ 9223372036854775807) (fi1 : ∀ E ∈ L1, E.In) (fn1 : a1 = none → cap1 = 0) (ws2 : s2.size ≤ maxLen) :
    Calls Try.prog 7 #[.slice a0 len0 cap0, .slice a1 len1 cap1, .string s2] w fun e w' => e = .returned (.bool true) ∧ Below w.heap.size w w' := by
  have HF0 := hide f0
  have HF1 := hide f1
  clear f0 fi0 fn0 f1 fi1 fn1 ws2
  go_enter Try.func7, Try.ntmps7
  go_wp2_with fail
  refine (shown_any w).mono ?_
  rintro r w1 ⟨rfl, b1⟩
  have HB1 := hide b1
  have HG0 := hide (HF0.out.below b1)
  have HG1 := hide (HF1.out.below b1)
  clear b1 HF0 HF1
  go_wp2_with fail
  refine (few_any a0 len0 cap0 L0 w1 HG0.out fc0 fm0).mono ?_
  rintro r w1a ⟨n, rfl, hE0, hnc, hn60, rfl⟩
  go_wp2_with fail
  refine (few_any a1 len1 cap1 L1 w1a HG1.out fc1 fm1).mono ?_
  rintro r w1b ⟨m, rfl, hE1, hmc, hm60, rfl⟩
  generalize L0.take 60 = A at *
  generalize L1.take 60 = B at *
  have hEn := hE0.1
  have hEm := hE1.1
  have HA := hide hE0
  have HBb := hide hE1
  clear hE0 hE1 HG0 HG1
  have HP := hide (dPut_any a0 n cap0 A w1b HA.out hnc fm0 (by omega))
  unfold DPuts at HP
  have HQ := hide (fun w2 (h : Es w2 a1 m B) => dPut_any a1 m cap1 B w2 h hmc fm1 (by omega))
  unfold DPuts at HQ
  go_wp2_with fail
  cases hqa : may A with
  | false =>
    rw [hqa] at HP
    refine HP.out.mono ?_
    rintro r w2 (⟨h, _⟩ | ⟨_, rfl, b2⟩)
    · cases h
    have HB2 := hide (HB1.out.trans (b2.mono HB1.out.size))
    have HE2 := hide (HBb.out.below b2)
    clear b2 HP hqa
    go_wp2_with fail
    refine (HQ.out w2 HE2.out).mono ?_
    rintro r w3 (⟨_, aQ, cQ, rfl, hN⟩ | ⟨_, rfl, b3⟩)
    · have HB3 := hide (HB2.out.trans (hN.bel.mono HB2.out.size))
      clear hN HQ
      go_wp2
      go_ret
      exact ⟨rfl, HB3.out⟩
    · have HB3 := hide (HB2.out.trans (b3.mono HB2.out.size))
      clear b3 HQ
      go_wp2
      go_ret
      exact ⟨rfl, HB3.out⟩
  | true =>
    rw [hqa] at HP
    refine HP.out.mono ?_
    rintro r w2 (⟨_, aP, cP, rfl, hN⟩ | ⟨h, _⟩)
    rotate_left
    · cases h
    have HB2 := hide (HB1.out.trans (hN.bel.mono HB1.out.size))
    have HE2 := hide (HBb.out.below hN.bel)
    have HA2 := hide (HA.out.below hN.bel)
    have HN := hide hN
    have hpa := putB_length (may_fit hqa)
    clear hN HP
    go_wp2_with fail
    cases hqb : may B with
    | false =>
      rw [hqb] at HQ
      refine (HQ.out w2 HE2.out).mono ?_
      rintro r w3 (⟨h, _⟩ | ⟨_, rfl, b3⟩)
      · cases h
      have HB3 := hide (HB2.out.trans (b3.mono HB2.out.size))
      clear b3 HQ
      go_wp2
      go_ret
      exact ⟨rfl, HB3.out⟩
    | true =>
      rw [hqb] at HQ
      refine (HQ.out w2 HE2.out).mono ?_
      rintro r w3 (⟨_, aQ, cQ, rfl, hM⟩ | ⟨h, _⟩)
      rotate_left
      · cases h
      have HB3 := hide (HB2.out.trans (hM.bel.mono HB2.out.size))
      have HA3 := hide (HA2.out.below hM.bel)
      have HE3 := hide (HE2.out.below hM.bel)
      have HX3 := hide (HN.out.bs.below hM.bel)
      have HY3 := hide hM.bs
      have hpb := putB_length (may_fit hqb)
      have hcx := HN.out.cap
      have HNx := hide HN.out.nil
      have hcy := hM.cap
      have HNy := hide hM.nil
      have HLk := hide (fun w4 (h : Bs w4 aP (putB A).length (putB A)) => dLook_any (putB A).length cP aP A s2 w4 hqa h HN.out.cap HN.out.nil (by omega))
      have HTw := hide (tk_two hqa hqb)
      have HAp := hide (may_append hqa hqb)
      have HTk := hide (fun ao c w4 (h : Bs w4 ao ((putB A).length + (putB B).length) (putB A ++ putB B)) (h2 : (putB A).length + (putB B).length ≤ c) (h3 : ao = none → c = 0) => dTake_any ((putB A).length + (putB B).length) c ao (putB A ++ putB B) w4 h h2 h3 (by omega))
      unfold DTakes at HTk
      rw [HTw.out.1, HTw.out.2] at HTk
      obtain ⟨x, hx⟩ : ∃ x, x = (putB A).length := ⟨_, rfl⟩
      obtain ⟨y, hy⟩ : ∃ y, y = (putB B).length := ⟨_, rfl⟩
      obtain ⟨X, hX⟩ : ∃ X, X = putB A := ⟨_, rfl⟩
      obtain ⟨Y, hY⟩ : ∃ Y, Y = putB B := ⟨_, rfl⟩
      rw [← hx, ← hX] at HX3 HLk
      rw [← hy, ← hY] at HY3
      rw [← hx, ← hy, ← hX, ← hY] at HTk
      rw [← hx] at hpa hcx
      rw [← hy] at hpb hcy
      rw [← hx, ← hy]
      have hx2 : x ≤ 20000 := by omega
      have hy2 : y ≤ 20000 := by omega
      clear hM HQ HTw hx hy hX hY hqa hqb hpa hpb HN HE2 HA2 HB1 HB2 HA HBb
      go_wp2_with fail
      go_loopw [12, 13] (fun r12 r13 wr => ∃ i : Nat, wr = w3 ∧ r13 = .int .i64 i ∧ i ≤ n ∧ r12 = .bool (hasN s2 (A.take i))) (fun _ r13 _ => n - (intOf r13).toNat)
      case atStart => exact ⟨0, rfl, rfl, Nat.zero_le _, rfl⟩
      case round =>
        obtain ⟨i, rfl, rfl, hi0, rfl⟩ := hrel
        by_cases hp : i < n
        · have hd : decide ((i : Int) < n) = true := by simpa using hp
          obtain ⟨ba, oa, rfl, hba, hca⟩ := HA3.out.at (by omega)
          have hxx := hca i hp
          have HTn := hide (take_gl A i (by rw [hEn]; exact hp))
          generalize gl A i = E at *
          obtain ⟨c0, _, _⟩ := range_cells hxx
          have HSn := hide (hasN_snoc s2 (A.take i) E)
          rw [← HTn.out] at HSn
          have hne := name_eq E s2
          generalize hb : hasN s2 (A.take i) = b at *
          clear hca hxx
          cases b with
          | true =>
            go_wp2
            exact ⟨⟨i + 1, trivial, by go_num, by omega, by rw [HSn.out]; rfl⟩, by simp [intOf]; omega⟩
          | false =>
            generalize decide (E.name = s2) = d at *
            go_wp2
            exact ⟨⟨i + 1, trivial, by go_num, by omega, by rw [HSn.out]; simp⟩, by simp [intOf]; omega⟩
        · have hd : decide ((i : Int) < n) = false := by simpa using hp
          have hAll : A.take i = A := List.take_of_length_le (by omega)
          rw [hAll]
          have hin := lk_in (s := s2) (L := A)
          rw [show (A.any fun E => decide (E.name = s2)) = hasN s2 A from rfl] at hin
          have HLw := hide (HLk.out wr HX3.out)
          generalize hasN s2 A = th at *
          generalize lk s2 A = R at *
          obtain ⟨K, ye⟩ := R
          simp only at hin HLw
          have hk8 : 0 + x ≤ 100000000 := by omega
          have hk9 : x + y ≤ 100000000 := by omega
          unfold ev at HLw
          cases th with
          | true =>
            obtain rfl : ye = 0 := by simpa using hin.1.symm
            clear hin hAll
            go_wp2_with fail
            refine HLw.out.mono ?_
            rintro r w4 ⟨rfl, b4⟩
            obtain ⟨wA, hwA⟩ : ∃ wA, wA = w4.alloc (.cells (ev K) 35) := ⟨_, rfl⟩
            have b4A : Below w4.heap.size w4 wA := by rw [hwA]; exact below_one _ _
            have b3A : Below wr.heap.size wr wA := b4.trans (b4A.mono b4.size)
            have HBA := hide (HB3.out.trans (b3A.mono HB3.out.size))
            have HAA := hide (HA3.out.below b3A)
            have HEA := hide (HE3.out.below b3A)
            have HXA := hide (HX3.out.below b3A)
            have HYA := hide (HY3.out.below b3A)
            have hsA : wA.heap.size = w4.heap.size + 1 := by rw [hwA]; simp
            have hO := emptyB (w := wA) (Nat.le_refl _)
            rw [hsA] at hO
            have HO := hide hO
            have HSX : Hid (Bs (wA.alloc (.cells #[] 5)) aP x X) := HXA.out.alloc _
            have HSY : Hid (Bs (wA.alloc (.cells #[] 5)) aQ y Y) := HYA.out.alloc _
            have HWA := hide hwA
            unfold ev at HWA
            clear b4 b4A b3A hwA HLk hO
            go_wp2_with (first
              | (at_builtin
                 rw [← HWA.out]
                 refine wpList_append_bs _ (by rfl) (.tmp 76) (.tmp 77) (by rfl) (w4.heap.size + 1) _ 0 0 [] (by rfl) HO.out aP x cP X (by rfl) HSX.out HNx.out hk8 (by simp; omega) ?_
                 intro ao5 c5 w5 ho5 hg5
                 have b5 : Below wA.heap.size wA w5 := ((Below.refl _ wA).alloc (Nat.le_refl _) _).grown hg5 (by simp) (fun kk e => by rw [hsA]; exact (HO.out.lt kk e).1)
                 rw [Nat.zero_add, List.nil_append] at ho5
                 have HO5 := hide ho5
                 have HB5 := hide b5
                 have HY5 := hide (HYA.out.below b5)
                 have hs5 := b5.size
                 have hs5' : w4.heap.size + 1 ≤ w5.heap.size := by rw [← hsA]; exact hs5
                 clear ho5 hg5 b5)
              | (at_builtin
                 refine wpList_append_bs _ (by rfl) (.tmp 78) (.tmp 79) (by rfl) (w4.heap.size + 1) _ _ _ X (by rfl) HO5.out aQ y cQ Y (by rfl) HY5.out HNy.out hk9 hs5' ?_
                 intro ao6 c6 w6 ho6 hg6
                 have b6 : Below wA.heap.size wA w6 := HB5.out.grown hg6 hs5 (fun kk e => by rw [hsA]; exact (HO5.out.lt kk e).1)
                 have HB6 := hide (HBA.out.trans (b6.mono HBA.out.size))
                 have HS6 := hide (bs_of_owns ho6 (HX3.out.bytes.append HY3.out.bytes))
                 have HC6 := hide (cap_own ho6)
                 have HA6 := hide (HAA.out.below b6)
                 have HE6 := hide (HEA.out.below b6)
                 clear ho6 hg6 b6))
            have HTx := hide (HTk.out ao6 c6 w6 HS6.out HC6.out.1 HC6.out.2.2)
            have hlab : (A ++ B).length = n + m := by rw [List.length_append, hEn, hEm]
            rw [hlab] at HTx
            rw [hEn, hEm] at HAp
            clear HO HSX HSY HWA HO5 HB5 HY5 hs5 hs5' HAA HEA HXA HYA HBA hsA HTk HS6 HC6 HX3 HY3 HNx HNy hlab HLw hcx hcy hk8 hk9 hx2 hy2 HB3 HA3 HE3
            generalize may (A ++ B) = R at *
            cases R with
            | true =>
              refine HTx.out.mono ?_
              rintro r w7 (⟨_, a7, c7, rfl, _, _, _, b7⟩ | ⟨h, _⟩)
              rotate_left
              · cases h
              have HBt : Hid (∀ q, Below w.heap.size w (w7.drewN q)) := fun q => below_drewN (HB6.out.trans (b7.mono HB6.out.size)) q
              have HA7 := hide (HA6.out.below b7)
              have HE7 := hide (HE6.out.below b7)
              clear b7 HTx HA6 HE6 HB6
              go_wp2_with fail
              by_cases h0 : n = 0
              · have k0 : decide (n = 0) = true := by simpa using h0
                subst h0
                go_quiet (fail)
                go_wp2
                go_ret
                exact ⟨rfl, HBt.out _⟩
              · have k0 : decide (n = 0) = false := by simpa using h0
                have k0' : ((n : Int) == 0) = false := by simp; omega
                by_cases h1 : m = 0
                · subst h1
                  go_quiet (fail)
                  go_wp2
                  go_ret
                  exact ⟨rfl, HBt.out _⟩
                · have k1 : decide (m = 0) = false := by simpa using h1
                  have k1' : ((m : Int) == 0) = false := by simp; omega
                  have hlb0 := HAp.out
                  rw [k0, k1] at hlb0
                  obtain ⟨ba, oa, rfl, hba, hca⟩ := HA7.out.at (by omega)
                  obtain ⟨bb, ob, rfl, hbb, hcb⟩ := HE7.out.at (by omega)
                  have hxa := hca (n - 1) (by omega)
                  have hxb := hcb 0 (by omega)
                  generalize gl A (n - 1) = P at *
                  generalize gl B 0 = Q at *
                  obtain ⟨k, hk⟩ : ∃ k, n = k + 1 := ⟨n - 1, by omega⟩
                  rw [show n - 1 = k by omega] at hxa
                  obtain ⟨p0, _, _⟩ := range_cells hxa
                  obtain ⟨q0, _, _⟩ := range_cells hxb
                  rw [Nat.zero_mul, Nat.add_zero] at q0
                  have i1 : IntKind.i64.wrap ((n : Int) - 1) = (n : Int) - 1 := by rw [IntKind.wrap_i64]; omega
                  have i2 : (0 : Int) ≤ (n : Int) - 1 := by omega
                  have i4 : ((n : Int) - 1).toNat = k := by omega
                  have i5 : (0 : Int) < (m : Int) := by omega
                  clear hca hcb hxa hxb hk
                  have hlb : Op.bytesLess P.name.toList Q.name.toList = true := by simpa using hlb0.symm
                  clear hlb0
                  go_quiet (fail)
                  go_wp2
                  go_ret
                  exact ⟨rfl, HBt.out _⟩
            | false =>
              refine HTx.out.mono ?_
              rintro r w7 (⟨h, _⟩ | ⟨_, rfl, b7⟩)
              · cases h
              have HBt : Hid (∀ q, Below w.heap.size w (w7.drewN q)) := fun q => below_drewN (HB6.out.trans (b7.mono HB6.out.size)) q
              have HA7 := hide (HA6.out.below b7)
              have HE7 := hide (HE6.out.below b7)
              clear b7 HTx HA6 HE6 HB6
              go_wp2_with fail
              have hlb0 := HAp.out
              have h0 : n ≠ 0 := fun h => by rw [h] at hlb0; simp at hlb0
              have h1 : m ≠ 0 := fun h => by rw [h] at hlb0; simp at hlb0
              have k0 : decide (n = 0) = false := by simpa using h0
              have k0' : ((n : Int) == 0) = false := by simp; omega
              have k1 : decide (m = 0) = false := by simpa using h1
              have k1' : ((m : Int) == 0) = false := by simp; omega
              rw [k0, k1] at hlb0
              obtain ⟨ba, oa, rfl, hba, hca⟩ := HA7.out.at (by omega)
              obtain ⟨bb, ob, rfl, hbb, hcb⟩ := HE7.out.at (by omega)
              have hxa := hca (n - 1) (by omega)
              have hxb := hcb 0 (by omega)
              generalize gl A (n - 1) = P at *
              generalize gl B 0 = Q at *
              obtain ⟨k, hk⟩ : ∃ k, n = k + 1 := ⟨n - 1, by omega⟩
              rw [show n - 1 = k by omega] at hxa
              obtain ⟨p0, _, _⟩ := range_cells hxa
              obtain ⟨q0, _, _⟩ := range_cells hxb
              rw [Nat.zero_mul, Nat.add_zero] at q0
              have i1 : IntKind.i64.wrap ((n : Int) - 1) = (n : Int) - 1 := by rw [IntKind.wrap_i64]; omega
              have i2 : (0 : Int) ≤ (n : Int) - 1 := by omega
              have i4 : ((n : Int) - 1).toNat = k := by omega
              have i5 : (0 : Int) < (m : Int) := by omega
              clear hca hcb hxa hxb hk
              have hlb : Op.bytesLess P.name.toList Q.name.toList = false := by simpa using hlb0.symm
              clear hlb0
              go_quiet (fail)
              go_wp2
              go_ret
              exact ⟨rfl, HBt.out _⟩
          | false =>
            obtain rfl : ye = 20 := by
              rcases hin.2 with h | h
              · rw [h] at hin; simp at hin
              · exact congrArg Prod.snd h
            clear hin hAll
            go_wp2_with fail
            refine HLw.out.mono ?_
            rintro r w4 ⟨rfl, b4⟩
            obtain ⟨wA, hwA⟩ : ∃ wA, wA = w4.alloc (.cells (ev K) 35) := ⟨_, rfl⟩
            have b4A : Below w4.heap.size w4 wA := by rw [hwA]; exact below_one _ _
            have b3A : Below wr.heap.size wr wA := b4.trans (b4A.mono b4.size)
            have HBA := hide (HB3.out.trans (b3A.mono HB3.out.size))
            have HAA := hide (HA3.out.below b3A)
            have HEA := hide (HE3.out.below b3A)
            have HXA := hide (HX3.out.below b3A)
            have HYA := hide (HY3.out.below b3A)
            have hsA : wA.heap.size = w4.heap.size + 1 := by rw [hwA]; simp
            have hO := emptyB (w := wA) (Nat.le_refl _)
            rw [hsA] at hO
            have HO := hide hO
            have HSX : Hid (Bs (wA.alloc (.cells #[] 5)) aP x X) := HXA.out.alloc _
            have HSY : Hid (Bs (wA.alloc (.cells #[] 5)) aQ y Y) := HYA.out.alloc _
            have HWA := hide hwA
            unfold ev at HWA
            clear b4 b4A b3A hwA HLk hO
            go_wp2_with (first
              | (at_builtin
                 rw [← HWA.out]
                 refine wpList_append_bs _ (by rfl) (.tmp 76) (.tmp 77) (by rfl) (w4.heap.size + 1) _ 0 0 [] (by rfl) HO.out aP x cP X (by rfl) HSX.out HNx.out hk8 (by simp; omega) ?_
                 intro ao5 c5 w5 ho5 hg5
                 have b5 : Below wA.heap.size wA w5 := ((Below.refl _ wA).alloc (Nat.le_refl _) _).grown hg5 (by simp) (fun kk e => by rw [hsA]; exact (HO.out.lt kk e).1)
                 rw [Nat.zero_add, List.nil_append] at ho5
                 have HO5 := hide ho5
                 have HB5 := hide b5
                 have HY5 := hide (HYA.out.below b5)
                 have hs5 := b5.size
                 have hs5' : w4.heap.size + 1 ≤ w5.heap.size := by rw [← hsA]; exact hs5
                 clear ho5 hg5 b5)
              | (at_builtin
                 refine wpList_append_bs _ (by rfl) (.tmp 78) (.tmp 79) (by rfl) (w4.heap.size + 1) _ _ _ X (by rfl) HO5.out aQ y cQ Y (by rfl) HY5.out HNy.out hk9 hs5' ?_
                 intro ao6 c6 w6 ho6 hg6
                 have b6 : Below wA.heap.size wA w6 := HB5.out.grown hg6 hs5 (fun kk e => by rw [hsA]; exact (HO5.out.lt kk e).1)
                 have HB6 := hide (HBA.out.trans (b6.mono HBA.out.size))
                 have HS6 := hide (bs_of_owns ho6 (HX3.out.bytes.append HY3.out.bytes))
                 have HC6 := hide (cap_own ho6)
                 have HA6 := hide (HAA.out.below b6)
                 have HE6 := hide (HEA.out.below b6)
                 clear ho6 hg6 b6))
            have HTx := hide (HTk.out ao6 c6 w6 HS6.out HC6.out.1 HC6.out.2.2)
            have hlab : (A ++ B).length = n + m := by rw [List.length_append, hEn, hEm]
            rw [hlab] at HTx
            rw [hEn, hEm] at HAp
            clear HO HSX HSY HWA HO5 HB5 HY5 hs5 hs5' HAA HEA HXA HYA HBA hsA HTk HS6 HC6 HX3 HY3 HNx HNy hlab HLw hcx hcy hk8 hk9 hx2 hy2 HB3 HA3 HE3
            generalize may (A ++ B) = R at *
            cases R with
            | true =>
              refine HTx.out.mono ?_
              rintro r w7 (⟨_, a7, c7, rfl, _, _, _, b7⟩ | ⟨h, _⟩)
              rotate_left
              · cases h
              have HBt : Hid (∀ q, Below w.heap.size w (w7.drewN q)) := fun q => below_drewN (HB6.out.trans (b7.mono HB6.out.size)) q
              have HA7 := hide (HA6.out.below b7)
              have HE7 := hide (HE6.out.below b7)
              clear b7 HTx HA6 HE6 HB6
              go_wp2_with fail
              by_cases h0 : n = 0
              · have k0 : decide (n = 0) = true := by simpa using h0
                subst h0
                go_quiet (fail)
                go_wp2
                go_ret
                exact ⟨rfl, HBt.out _⟩
              · have k0 : decide (n = 0) = false := by simpa using h0
                have k0' : ((n : Int) == 0) = false := by simp; omega
                by_cases h1 : m = 0
                · subst h1
                  go_quiet (fail)
                  go_wp2
                  go_ret
                  exact ⟨rfl, HBt.out _⟩
                · have k1 : decide (m = 0) = false := by simpa using h1
                  have k1' : ((m : Int) == 0) = false := by simp; omega
                  have hlb0 := HAp.out
                  rw [k0, k1] at hlb0
                  obtain ⟨ba, oa, rfl, hba, hca⟩ := HA7.out.at (by omega)
                  obtain ⟨bb, ob, rfl, hbb, hcb⟩ := HE7.out.at (by omega)
                  have hxa := hca (n - 1) (by omega)
                  have hxb := hcb 0 (by omega)
                  generalize gl A (n - 1) = P at *
                  generalize gl B 0 = Q at *
                  obtain ⟨k, hk⟩ : ∃ k, n = k + 1 := ⟨n - 1, by omega⟩
                  rw [show n - 1 = k by omega] at hxa
                  obtain ⟨p0, _, _⟩ := range_cells hxa
                  obtain ⟨q0, _, _⟩ := range_cells hxb
                  rw [Nat.zero_mul, Nat.add_zero] at q0
                  have i1 : IntKind.i64.wrap ((n : Int) - 1) = (n : Int) - 1 := by rw [IntKind.wrap_i64]; omega
                  have i2 : (0 : Int) ≤ (n : Int) - 1 := by omega
                  have i4 : ((n : Int) - 1).toNat = k := by omega
                  have i5 : (0 : Int) < (m : Int) := by omega
                  clear hca hcb hxa hxb hk
                  have hlb : Op.bytesLess P.name.toList Q.name.toList = true := by simpa using hlb0.symm
                  clear hlb0
                  go_quiet (fail)
                  go_wp2
                  go_ret
                  exact ⟨rfl, HBt.out _⟩
            | false =>
              refine HTx.out.mono ?_
              rintro r w7 (⟨h, _⟩ | ⟨_, rfl, b7⟩)
              · cases h
              have HBt : Hid (∀ q, Below w.heap.size w (w7.drewN q)) := fun q => below_drewN (HB6.out.trans (b7.mono HB6.out.size)) q
              have HA7 := hide (HA6.out.below b7)
              have HE7 := hide (HE6.out.below b7)
              clear b7 HTx HA6 HE6 HB6
              go_wp2_with fail
              have hlb0 := HAp.out
              have h0 : n ≠ 0 := fun h => by rw [h] at hlb0; simp at hlb0
              have h1 : m ≠ 0 := fun h => by rw [h] at hlb0; simp at hlb0
              have k0 : decide (n = 0) = false := by simpa using h0
              have k0' : ((n : Int) == 0) = false := by simp; omega
              have k1 : decide (m = 0) = false := by simpa using h1
              have k1' : ((m : Int) == 0) = false := by simp; omega
              rw [k0, k1] at hlb0
              obtain ⟨ba, oa, rfl, hba, hca⟩ := HA7.out.at (by omega)
              obtain ⟨bb, ob, rfl, hbb, hcb⟩ := HE7.out.at (by omega)
              have hxa := hca (n - 1) (by omega)
              have hxb := hcb 0 (by omega)
              generalize gl A (n - 1) = P at *
              generalize gl B 0 = Q at *
              obtain ⟨k, hk⟩ : ∃ k, n = k + 1 := ⟨n - 1, by omega⟩
              rw [show n - 1 = k by omega] at hxa
              obtain ⟨p0, _, _⟩ := range_cells hxa
              obtain ⟨q0, _, _⟩ := range_cells hxb
              rw [Nat.zero_mul, Nat.add_zero] at q0
              have i1 : IntKind.i64.wrap ((n : Int) - 1) = (n : Int) - 1 := by rw [IntKind.wrap_i64]; omega
              have i2 : (0 : Int) ≤ (n : Int) - 1 := by omega
              have i4 : ((n : Int) - 1).toNat = k := by omega
              have i5 : (0 : Int) < (m : Int) := by omega
              clear hca hcb hxa hxb hk
              have hlb : Op.bytesLess P.name.toList Q.name.toList = false := by simpa using hlb0.symm
              clear hlb0
              go_quiet (fail)
              go_wp2
              go_ret
              exact ⟨rfl, HBt.out _⟩
end Go.Proofs.Ytdenbbljbkpbdaa

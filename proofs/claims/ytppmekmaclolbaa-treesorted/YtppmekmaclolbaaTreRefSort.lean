/- Layer 7: the reference's Sorted, walked. -/
import Derived.Test.YtppmekmaclolbaaTreRefSort0
namespace Go.Proofs.Ytppmekmaclolbaa
set_option linter.unusedVariables false
open Go.RowKit Go.Maps
open Nam Tre

/-- The row so far. -/
structure SO (w wr : World) (L C : List (Nv × Nod)) (ao : Option Addr) (c' i : Nat) : Prop where
  row : wr.ownsRow w.heap.size 42 10 (.slice ao i c') i (nvs (C.map (·.1)))
  perm : C.Perm (L.take i)
  srt : Srt C
  bel : Below w.heap.size w wr
  som : ∃ g, ao = some ⟨g, 0, none⟩
theorem owns_low {w : World} {B B' e size n : Nat} {v : Value} {xs : List Value} (h : w.ownsRow B e size v n xs) (hb : B' ≤ B) : w.ownsRow B' e size v n xs := by
  refine ⟨h.1, ?_⟩
  rcases h.2 with h0 | ⟨g, cap, cur, h1, h2, h3⟩
  · exact .inl h0
  · exact .inr ⟨g, cap, cur, h1, Nat.le_trans hb h2, h3⟩
theorem SO.ins {w wr w5 : World} {L C : List (Nv × Nod)} {ao ao5 : Option Addr} {c' i n k5 j : Nat} {x : Nv × Nod} (h : SO w wr L C ao c' i) (hL : L.length = n) (hi : i < n) (hx : x = gl L i) (hj : j ≤ i) (hI : ∀ k, j ≤ k → k < C.length → ltn x.2 (gl C k).2 = true) (hE : j = 0 ∨ ltn x.2 (gl C (j - 1)).2 = false)
    (hb : Below wr.heap.size wr w5) (ho : w5.ownsRow wr.heap.size 42 10 (.slice ao5 (i + 1) k5) (i + 1) (nvs ((insJ C x j).map (fun p => p.1)))) : SO w w5 L (insJ C x j) ao5 k5 (i + 1) := by
  have hCl : C.length = i := by rw [h.perm.length_eq, List.length_take]; omega
  refine ⟨owns_low ho h.bel.size, ?_, insJ_srt h.srt (by omega) hI hE, h.bel.trans (hb.mono h.bel.size), ?_⟩
  · rw [hx]; exact insJ_perm h.perm (by omega)
  · obtain ⟨g, cc, hv, _⟩ := ho.form (by omega)
    exact ⟨g, by simp at hv; exact hv.1⟩
set_option maxRecDepth 100000 in
set_option maxHeartbeats 1000000 in
theorem refSorted_any (a : Option Addr) (n c : Nat) (L : List (Nv × Nod)) (w : World) (hl : Ns w a n L) (hc : n ≤ c) (hcm : c ≤ 9223372036854775807) (hn : n ≤ 100000) (h20 : ∀ p ∈ L, p.2.names.length ≤ 1000000) :
    Calls Try.prog 42 #[.slice a n c] w fun e w' => ∃ ao c' C, e = .returned (.slice ao n c') ∧ SO w w' L C ao c' n := by
  have HL := hide hl
  have HLN := hide hl.1
  have H20 := hide h20
  clear hl h20
  go_enter Try.func42, Try.ntmps42
  go_wp2
  go_loopw [3, 4, 5, 6] (fun r3 r4 _ _ wr => ∃ (i : Nat) (ao : Option Addr) (c' : Nat) (C : List (Nv × Nod)), r3 = .slice ao i c' ∧ r4 = .int .i64 i ∧ i ≤ n ∧ SO w wr L C ao c' i) (fun _ r4 _ _ _ => n - (intOf r4).toNat)
  case atStart => exact ⟨0, _, _, [], rfl, rfl, Nat.zero_le _, emptyN (Nat.le_refl _), by simp, List.Pairwise.nil, (Below.refl _ _).alloc (Nat.le_refl _) _, _, rfl⟩
  case round =>
    obtain ⟨i, ao, c', C, rfl, rfl, hi0, hso⟩ := hrel
    have HSO := hide hso
    by_cases hi : i < n
    · have hd : decide ((i : Int) < n) = true := by simpa using hi
      have hla : i < L.length := by rw [HLN.out]; exact hi
      have hCl : C.length = i := by rw [hso.perm.length_eq, List.length_take]; omega
      obtain ⟨ba, oa, rfl, hba, hca⟩ := (HL.out.below hso.bel).at (by omega)
      have hra := (HL.out.below hso.bel).rep i hi
      have hnn : (gl L i).1.nn ≤ 1000000 := by rw [← hra.names.1]; exact H20.out _ (gl_mem L i hla)
      have HNA := hide (hca i hi)
      have c0 := (hca i hi).c0
      have hsh := sh_of_owns hso.row
      have HSH := hide hsh
      have hCr : ∀ p ∈ C, Rep wr p.1 p.2 ∧ p.1.nn ≤ 1000000 := fun p hp => by
        have hm : p ∈ L := List.mem_of_mem_take (hso.perm.mem_iff.1 hp)
        have hr := (HL.out.below hso.bel).2.1 p hm
        exact ⟨hr, by rw [← hr.names.1]; exact H20.out p hm⟩
      have HCR := hide hCr
      have HCC := hide hCl
      obtain ⟨x, hx⟩ : ∃ x, x = gl L i := ⟨_, rfl⟩
      have HX := hide hx
      rw [← hx] at hra hnn HNA c0
      have HRA := hide hra
      obtain ⟨g, rfl⟩ := hso.som
      have hcc := cap_owns hso.row
      obtain ⟨hcc1, hcc2, _⟩ := hcc
      have hi1 : (i : Int) < n := by omega
      clear hso hca hra hsh hCr hCl hx
      go_wp2
      go_loopw [5] (fun r5 ws => ∃ j q : Nat, ws = wr.drewN q ∧ r5 = .int .i64 j ∧ j ≤ i ∧ ∀ k, j ≤ k → k < C.length → ltn x.2 (gl C k).2 = true) (fun r5 _ => (intOf r5).toNat)
      case atStart => exact ⟨i, 0, rfl, by go_num, Nat.le_refl _, fun k h1 h2 => by have := HCC.out; omega⟩
      case round =>
        obtain ⟨j, q, rfl, rfl, hj0, hinv⟩ := hrel
        have HI := hide hinv
        have SHD : Hid (∀ W, Below wr.heap.size wr W → ∀ off', (off' = j * 10 ∨ i - j = 0) → Sh W (some ⟨g, off', none⟩) (i - j) ((C.map (fun p => p.1)).drop j)) := fun W hW off' ho => by
          rcases ho with rfl | ho
          · have := (HSH.out.below hW).drop j hj0
            rw [Nat.zero_add] at this
            exact this
          · exact ⟨by rw [List.length_drop, List.length_map, HCC.out], .inl ho⟩
        clear hinv
        by_cases hj : 0 < j
        · have hdj : decide ((0 : Int) < j) = true := by simp; omega
          obtain ⟨b', off', hbo, hb', hat⟩ := HSH.out.at (by omega)
          obtain ⟨rfl, rfl⟩ : g = b' ∧ 0 = off' := by simpa using hbo
          obtain ⟨t, hjt, hti, HT⟩ : ∃ t : Nat, (j : Int) - 1 = (t : Int) ∧ t < i ∧ Hid (t = j - 1) := ⟨j - 1, by omega, by omega, rfl⟩
          have d0 := (hat t hti).c0
          rw [gv_map C t (by rw [HCC.out]; exact hti), Nat.zero_add] at d0
          obtain ⟨hrc, hmm⟩ := HCR.out _ (gl_mem C t (by rw [HCC.out]; exact hti))
          have HK : Hid (∀ q, Calls Try.prog 24 #[.slice x.1.na x.1.nn x.1.nc, .slice (gl C t).1.na (gl C t).1.nn (gl C t).1.nc] (wr.drewN q) fun e w' => e = .returned (.bool (ltn x.2 (gl C t).2)) ∧ ∃ q', w' = (wr.drewN q).drewN q') := fun q =>
            refLess_any _ _ _ _ _ _ _ _ _ (HRA.out.names.drewN q) (hrc.names.drewN q) hnn hmm
          obtain ⟨z, hz⟩ : ∃ z, ltn x.2 (gl C t).2 = z := ⟨_, rfl⟩
          rw [hz] at HK
          have HZ := hide hz
          generalize (gl C t).1 = v at *
          have hcj : (t : Int) < i := by omega
          have HS := hide (And.intro c0 d0)
          have hj1 : (0 : Int) < j := by omega
          have hwr : IntKind.i64.wrap ((j : Int) - 1) = (t : Int) := by rw [hjt]; exact IntWalk.i64_in _ (by omega)
          have hjn : Hid (j ≤ 100000) := by show _ ≤ _; omega
          clear hat hbo hrc hz hjt
          go_wp2
          go_region_held3 (fun wX => wX.cell? ⟨ba, oa + i * 10, none⟩ = some (.slice x.1.na x.1.nn x.1.nc) ∧ wX.cell? ⟨g, t * 10, none⟩ = some (.slice v.na v.nn v.nc)) (exact HS.out)
            ((first
              | (go_at_call 24; refine (HK.out (q + 1)).mono ?_; rintro r w5 ⟨rfl, q', rfl⟩)))
          cases z with
          | true =>
            go_wp2
            refine ⟨⟨t, q + 1 + q', by simp, rfl, by omega, fun k h1 h2 => ?_⟩, by have := HT.out; simp [intOf]; omega⟩
            by_cases e : k = t
            · rw [e]; exact HZ.out
            · exact HI.out k (by have := HT.out; omega) h2
          | false =>
            have HEX : Hid (j = 0 ∨ ltn x.2 (gl C (j - 1)).2 = false) := .inr (by rw [← HT.out]; exact HZ.out)
            clear HK HS HZ d0 hcj hti HT hj1 hwr hdj hmm hj
            by_cases hcj : c' = j
            · have hij : Hid (i - j = 0) := by show _ = _; omega
              go_wp2_with (at_builtin; refine wpList_append_nod _ rfl _ _ rfl wr.heap.size _ _ _ [] rfl (emptyN' (by simp) (by simp)) _ _ _ ((C.map (fun p => p.1)).drop j) rfl (SHD.out _ (by repeat (first | exact HB5.out | exact HB4.out | exact HB3.out | exact Below.refl _ _ | apply up_drew | apply up_drewN | apply up_alloc)) _ (by first | exact .inl rfl | exact .inr hij.out)) (fun h => by cases h) (by omega) (by simp) ?_)
              intro ao2 k2 w2 hown2 hg2
              try rw [List.nil_append, Nat.zero_add] at hown2
              try rw [Nat.zero_add]
              have hb2 : Below wr.heap.size wr w2 := Below.grown (by repeat (first | exact HB5.out | exact HB4.out | exact HB3.out | exact Below.refl _ _ | apply up_drew | apply up_drewN | apply up_alloc)) hg2 (by simp) (fun k e => by simp [Value.ownBlock] at e; omega)
              have E2 := hide hb2
              have HTL := hide (sh_of_owns hown2)
              have hk2 := (cap_owns hown2).2.2
              have HK2 := hide hk2
              have HOJ := hide ((HSH.out.below hb2).take j hj0)
              have HN2 := hide (HNA.out.below hb2 hba)
              have hba2 : ba < w2.heap.size := Nat.lt_of_lt_of_le hba hb2.size
              have hjc : (j : Int) ≤ c' := by omega
              have HIN : Hid (((C.map (fun p => p.1)).take j ++ [x.1]) ++ (C.map (fun p => p.1)).drop j = (insJ C x j).map (fun p => p.1)) := by
                show _ = _
                simp [insJ]
              have HS := hide (ten HN2.out)
              clear hown2 hg2 hk2 hb2 SHD c0 HRA
              go_wp2
              go_region_held3 (fun wX => wX.cell? ⟨ba, oa + i * 10, none⟩ = some (.slice x.1.na x.1.nn x.1.nc) ∧ wX.cell? ⟨ba, oa + i * 10 + 1, none⟩ = some (.int .i64 x.1.ino) ∧ wX.cell? ⟨ba, oa + i * 10 + 2, none⟩ = some (.int .i64 x.1.kind) ∧ wX.cell? ⟨ba, oa + i * 10 + 3, none⟩ = some (.int .i64 x.1.mode) ∧ wX.cell? ⟨ba, oa + i * 10 + 4, none⟩ = some (.int .i64 x.1.uid) ∧ wX.cell? ⟨ba, oa + i * 10 + 5, none⟩ = some (.int .i64 x.1.gid) ∧ wX.cell? ⟨ba, oa + i * 10 + 6, none⟩ = some (.slice x.1.da x.1.dn x.1.dc) ∧ wX.cell? ⟨ba, oa + i * 10 + 7, none⟩ = some (.string x.1.tg) ∧ wX.cell? ⟨ba, oa + i * 10 + 8, none⟩ = some (.slice x.1.xa x.1.xn x.1.xc) ∧ wX.cell? ⟨ba, oa + i * 10 + 9, none⟩ = some (.bool x.1.op)) (exact ten (HN2.out.below (by repeat (first | exact HB5.out | exact HB4.out | exact HB3.out | exact Below.refl _ _ | apply up_drew | apply up_drewN | apply up_alloc)) hba2))
                ((first
                  | (refine step_append_nod _ (by rfl) (.tmp 39) (.tmp 42) (by rfl) w2 (by repeat (first | exact HB5.out | exact HB4.out | exact HB3.out | exact Below.refl _ _ | apply up_drew | apply up_drewN | apply up_alloc)) _ _ _ [] (by rfl) (by first | exact emptyN' (by simp) (by simp) | exact (emptyN' (by simp) (by simp)).alloc _) _ _ _ ((C.map (fun p => p.1)).take j) (by rfl) (HOJ.out.below (by repeat (first | exact HB5.out | exact HB4.out | exact HB3.out | exact Below.refl _ _ | apply up_drew | apply up_drewN | apply up_alloc))) (fun h => by cases h) j (by omega) _ rfl (by omega) ?_; intro ao3 k3 w3 hown3 hg3 hb3; have HO3 := hide hown3; have HG3 := hide hg3; have HB3 := hide hb3; clear hown3 hg3 hb3)
                  | (refine step_append_nod _ (by rfl) (.tmp 43) (.tmp 48) (by rfl) w2 (by repeat (first | exact HB5.out | exact HB4.out | exact HB3.out | exact Below.refl _ _ | apply up_drew | apply up_drewN | apply up_alloc)) _ _ _ ((C.map (fun p => p.1)).take j) (by rfl) (by first | exact HO3.out | exact HO3.out.alloc _) _ _ _ [x.1] (by rfl) (by first | exact sh_one' (by simp) | exact box_keep (by first | exact heap_new' (by simp) | exact heap_old' (heap_new' (by simp))) HG3.out (by simp [Value.ownBlock])) (fun h => by cases h) (j + 1) (by omega) _ rfl (by omega) ?_; intro ao4 k4 w4 hown4 hg4 hb4; have HO4 := hide hown4; have HB4 := hide hb4; clear hown4 hg4 hb4)
                  | (refine step_append_nod _ (by rfl) (.tmp 49) (.tmp 50) (by rfl) w2 (by repeat (first | exact HB5.out | exact HB4.out | exact HB3.out | exact Below.refl _ _ | apply up_drew | apply up_drewN | apply up_alloc)) _ _ _ ((C.map (fun p => p.1)).take j ++ [x.1]) (by rfl) (by first | exact HO4.out) _ _ _ ((C.map (fun p => p.1)).drop j) (by rfl) (HTL.out.below (by repeat (first | exact HB5.out | exact HB4.out | exact HB3.out | exact Below.refl _ _ | apply up_drew | apply up_drewN | apply up_alloc))) HK2.out (i + 1) (by omega) _ HIN.out (by omega) ?_; intro ao5 k5 w5 hown5 hg5 hb5; have HO5 := hide hown5; have HB5 := hide hb5; clear hown5 hg5 hb5)))
              all_goals (
                have HF := hide (HSO.out.ins HLN.out hi HX.out hj0 HI.out HEX.out (E2.out.trans (HB5.out.mono E2.out.size)) (owns_low HO5.out E2.out.size))
                go_wp2
                exact ⟨⟨i + 1, ao5, k5, insJ C x j, rfl, by go_num, by omega, HF.out⟩, by simp [intOf]; omega⟩)
            · go_wp2_with (at_builtin; refine wpList_append_nod _ rfl _ _ rfl wr.heap.size _ _ _ [] rfl (emptyN' (by simp) (by simp)) _ _ _ ((C.map (fun p => p.1)).drop j) rfl (SHD.out _ (by repeat (first | exact HB5.out | exact HB4.out | exact HB3.out | exact Below.refl _ _ | apply up_drew | apply up_drewN | apply up_alloc)) _ (by first | exact .inl rfl | exact .inr hij.out)) (fun h => by cases h) (by omega) (by simp) ?_)
              intro ao2 k2 w2 hown2 hg2
              try rw [List.nil_append, Nat.zero_add] at hown2
              try rw [Nat.zero_add]
              have hb2 : Below wr.heap.size wr w2 := Below.grown (by repeat (first | exact HB5.out | exact HB4.out | exact HB3.out | exact Below.refl _ _ | apply up_drew | apply up_drewN | apply up_alloc)) hg2 (by simp) (fun k e => by simp [Value.ownBlock] at e; omega)
              have E2 := hide hb2
              have HTL := hide (sh_of_owns hown2)
              have hk2 := (cap_owns hown2).2.2
              have HK2 := hide hk2
              have HOJ := hide ((HSH.out.below hb2).take j hj0)
              have HN2 := hide (HNA.out.below hb2 hba)
              have hba2 : ba < w2.heap.size := Nat.lt_of_lt_of_le hba hb2.size
              have hjc : (j : Int) ≤ c' := by omega
              have HIN : Hid (((C.map (fun p => p.1)).take j ++ [x.1]) ++ (C.map (fun p => p.1)).drop j = (insJ C x j).map (fun p => p.1)) := by
                show _ = _
                simp [insJ]
              have HS := hide (ten HN2.out)
              clear hown2 hg2 hk2 hb2 SHD c0 HRA
              go_wp2
              go_region_held3 (fun wX => wX.cell? ⟨ba, oa + i * 10, none⟩ = some (.slice x.1.na x.1.nn x.1.nc) ∧ wX.cell? ⟨ba, oa + i * 10 + 1, none⟩ = some (.int .i64 x.1.ino) ∧ wX.cell? ⟨ba, oa + i * 10 + 2, none⟩ = some (.int .i64 x.1.kind) ∧ wX.cell? ⟨ba, oa + i * 10 + 3, none⟩ = some (.int .i64 x.1.mode) ∧ wX.cell? ⟨ba, oa + i * 10 + 4, none⟩ = some (.int .i64 x.1.uid) ∧ wX.cell? ⟨ba, oa + i * 10 + 5, none⟩ = some (.int .i64 x.1.gid) ∧ wX.cell? ⟨ba, oa + i * 10 + 6, none⟩ = some (.slice x.1.da x.1.dn x.1.dc) ∧ wX.cell? ⟨ba, oa + i * 10 + 7, none⟩ = some (.string x.1.tg) ∧ wX.cell? ⟨ba, oa + i * 10 + 8, none⟩ = some (.slice x.1.xa x.1.xn x.1.xc) ∧ wX.cell? ⟨ba, oa + i * 10 + 9, none⟩ = some (.bool x.1.op)) (exact ten (HN2.out.below (by repeat (first | exact HB5.out | exact HB4.out | exact HB3.out | exact Below.refl _ _ | apply up_drew | apply up_drewN | apply up_alloc)) hba2))
                ((first
                  | (refine step_append_nod _ (by rfl) (.tmp 39) (.tmp 42) (by rfl) w2 (by repeat (first | exact HB5.out | exact HB4.out | exact HB3.out | exact Below.refl _ _ | apply up_drew | apply up_drewN | apply up_alloc)) _ _ _ [] (by rfl) (by first | exact emptyN' (by simp) (by simp) | exact (emptyN' (by simp) (by simp)).alloc _) _ _ _ ((C.map (fun p => p.1)).take j) (by rfl) (HOJ.out.below (by repeat (first | exact HB5.out | exact HB4.out | exact HB3.out | exact Below.refl _ _ | apply up_drew | apply up_drewN | apply up_alloc))) (fun h => by cases h) j (by omega) _ rfl (by omega) ?_; intro ao3 k3 w3 hown3 hg3 hb3; have HO3 := hide hown3; have HG3 := hide hg3; have HB3 := hide hb3; clear hown3 hg3 hb3)
                  | (refine step_append_nod _ (by rfl) (.tmp 43) (.tmp 48) (by rfl) w2 (by repeat (first | exact HB5.out | exact HB4.out | exact HB3.out | exact Below.refl _ _ | apply up_drew | apply up_drewN | apply up_alloc)) _ _ _ ((C.map (fun p => p.1)).take j) (by rfl) (by first | exact HO3.out | exact HO3.out.alloc _) _ _ _ [x.1] (by rfl) (by first | exact sh_one' (by simp) | exact box_keep (by first | exact heap_new' (by simp) | exact heap_old' (heap_new' (by simp))) HG3.out (by simp [Value.ownBlock])) (fun h => by cases h) (j + 1) (by omega) _ rfl (by omega) ?_; intro ao4 k4 w4 hown4 hg4 hb4; have HO4 := hide hown4; have HB4 := hide hb4; clear hown4 hg4 hb4)
                  | (refine step_append_nod _ (by rfl) (.tmp 49) (.tmp 50) (by rfl) w2 (by repeat (first | exact HB5.out | exact HB4.out | exact HB3.out | exact Below.refl _ _ | apply up_drew | apply up_drewN | apply up_alloc)) _ _ _ ((C.map (fun p => p.1)).take j ++ [x.1]) (by rfl) (by first | exact HO4.out) _ _ _ ((C.map (fun p => p.1)).drop j) (by rfl) (HTL.out.below (by repeat (first | exact HB5.out | exact HB4.out | exact HB3.out | exact Below.refl _ _ | apply up_drew | apply up_drewN | apply up_alloc))) HK2.out (i + 1) (by omega) _ HIN.out (by omega) ?_; intro ao5 k5 w5 hown5 hg5 hb5; have HO5 := hide hown5; have HB5 := hide hb5; clear hown5 hg5 hb5)))
              all_goals (
                have HF := hide (HSO.out.ins HLN.out hi HX.out hj0 HI.out HEX.out (E2.out.trans (HB5.out.mono E2.out.size)) (owns_low HO5.out E2.out.size))
                go_wp2
                exact ⟨⟨i + 1, ao5, k5, insJ C x j, rfl, by go_num, by omega, HF.out⟩, by simp [intOf]; omega⟩)
        · have HEX : Hid (j = 0 ∨ ltn x.2 (gl C (j - 1)).2 = false) := .inl (by omega)
          have hdj : decide ((0 : Int) < j) = false := by simp; omega
          have hdj2 : ¬ (0 : Int) < j := by omega
          go_wp2
          go_quiet (fail)
          by_cases hcj : c' = j
          · have hij : Hid (i - j = 0) := by show _ = _; omega
            go_wp2_with (at_builtin; refine wpList_append_nod _ rfl _ _ rfl wr.heap.size _ _ _ [] rfl (emptyN' (by simp) (by simp)) _ _ _ ((C.map (fun p => p.1)).drop j) rfl (SHD.out _ (by repeat (first | exact HB5.out | exact HB4.out | exact HB3.out | exact Below.refl _ _ | apply up_drew | apply up_drewN | apply up_alloc)) _ (by first | exact .inl rfl | exact .inr hij.out)) (fun h => by cases h) (by omega) (by simp) ?_)
            intro ao2 k2 w2 hown2 hg2
            try rw [List.nil_append, Nat.zero_add] at hown2
            try rw [Nat.zero_add]
            have hb2 : Below wr.heap.size wr w2 := Below.grown (by repeat (first | exact HB5.out | exact HB4.out | exact HB3.out | exact Below.refl _ _ | apply up_drew | apply up_drewN | apply up_alloc)) hg2 (by simp) (fun k e => by simp [Value.ownBlock] at e; omega)
            have E2 := hide hb2
            have HTL := hide (sh_of_owns hown2)
            have hk2 := (cap_owns hown2).2.2
            have HK2 := hide hk2
            have HOJ := hide ((HSH.out.below hb2).take j hj0)
            have HN2 := hide (HNA.out.below hb2 hba)
            have hba2 : ba < w2.heap.size := Nat.lt_of_lt_of_le hba hb2.size
            have hjc : (j : Int) ≤ c' := by omega
            have HIN : Hid (((C.map (fun p => p.1)).take j ++ [x.1]) ++ (C.map (fun p => p.1)).drop j = (insJ C x j).map (fun p => p.1)) := by
              show _ = _
              simp [insJ]
            have HS := hide (ten HN2.out)
            clear hown2 hg2 hk2 hb2 SHD c0 HRA
            go_wp2
            go_region_held3 (fun wX => wX.cell? ⟨ba, oa + i * 10, none⟩ = some (.slice x.1.na x.1.nn x.1.nc) ∧ wX.cell? ⟨ba, oa + i * 10 + 1, none⟩ = some (.int .i64 x.1.ino) ∧ wX.cell? ⟨ba, oa + i * 10 + 2, none⟩ = some (.int .i64 x.1.kind) ∧ wX.cell? ⟨ba, oa + i * 10 + 3, none⟩ = some (.int .i64 x.1.mode) ∧ wX.cell? ⟨ba, oa + i * 10 + 4, none⟩ = some (.int .i64 x.1.uid) ∧ wX.cell? ⟨ba, oa + i * 10 + 5, none⟩ = some (.int .i64 x.1.gid) ∧ wX.cell? ⟨ba, oa + i * 10 + 6, none⟩ = some (.slice x.1.da x.1.dn x.1.dc) ∧ wX.cell? ⟨ba, oa + i * 10 + 7, none⟩ = some (.string x.1.tg) ∧ wX.cell? ⟨ba, oa + i * 10 + 8, none⟩ = some (.slice x.1.xa x.1.xn x.1.xc) ∧ wX.cell? ⟨ba, oa + i * 10 + 9, none⟩ = some (.bool x.1.op)) (exact ten (HN2.out.below (by repeat (first | exact HB5.out | exact HB4.out | exact HB3.out | exact Below.refl _ _ | apply up_drew | apply up_drewN | apply up_alloc)) hba2))
              ((first
                | (refine step_append_nod _ (by rfl) (.tmp 39) (.tmp 42) (by rfl) w2 (by repeat (first | exact HB5.out | exact HB4.out | exact HB3.out | exact Below.refl _ _ | apply up_drew | apply up_drewN | apply up_alloc)) _ _ _ [] (by rfl) (by first | exact emptyN' (by simp) (by simp) | exact (emptyN' (by simp) (by simp)).alloc _) _ _ _ ((C.map (fun p => p.1)).take j) (by rfl) (HOJ.out.below (by repeat (first | exact HB5.out | exact HB4.out | exact HB3.out | exact Below.refl _ _ | apply up_drew | apply up_drewN | apply up_alloc))) (fun h => by cases h) j (by omega) _ rfl (by omega) ?_; intro ao3 k3 w3 hown3 hg3 hb3; have HO3 := hide hown3; have HG3 := hide hg3; have HB3 := hide hb3; clear hown3 hg3 hb3)
                | (refine step_append_nod _ (by rfl) (.tmp 43) (.tmp 48) (by rfl) w2 (by repeat (first | exact HB5.out | exact HB4.out | exact HB3.out | exact Below.refl _ _ | apply up_drew | apply up_drewN | apply up_alloc)) _ _ _ ((C.map (fun p => p.1)).take j) (by rfl) (by first | exact HO3.out | exact HO3.out.alloc _) _ _ _ [x.1] (by rfl) (by first | exact sh_one' (by simp) | exact box_keep (by first | exact heap_new' (by simp) | exact heap_old' (heap_new' (by simp))) HG3.out (by simp [Value.ownBlock])) (fun h => by cases h) (j + 1) (by omega) _ rfl (by omega) ?_; intro ao4 k4 w4 hown4 hg4 hb4; have HO4 := hide hown4; have HB4 := hide hb4; clear hown4 hg4 hb4)
                | (refine step_append_nod _ (by rfl) (.tmp 49) (.tmp 50) (by rfl) w2 (by repeat (first | exact HB5.out | exact HB4.out | exact HB3.out | exact Below.refl _ _ | apply up_drew | apply up_drewN | apply up_alloc)) _ _ _ ((C.map (fun p => p.1)).take j ++ [x.1]) (by rfl) (by first | exact HO4.out) _ _ _ ((C.map (fun p => p.1)).drop j) (by rfl) (HTL.out.below (by repeat (first | exact HB5.out | exact HB4.out | exact HB3.out | exact Below.refl _ _ | apply up_drew | apply up_drewN | apply up_alloc))) HK2.out (i + 1) (by omega) _ HIN.out (by omega) ?_; intro ao5 k5 w5 hown5 hg5 hb5; have HO5 := hide hown5; have HB5 := hide hb5; clear hown5 hg5 hb5)))
            all_goals (
              have HF := hide (HSO.out.ins HLN.out hi HX.out hj0 HI.out HEX.out (E2.out.trans (HB5.out.mono E2.out.size)) (owns_low HO5.out E2.out.size))
              go_wp2
              exact ⟨⟨i + 1, ao5, k5, insJ C x j, rfl, by go_num, by omega, HF.out⟩, by simp [intOf]; omega⟩)
          · go_wp2_with (at_builtin; refine wpList_append_nod _ rfl _ _ rfl wr.heap.size _ _ _ [] rfl (emptyN' (by simp) (by simp)) _ _ _ ((C.map (fun p => p.1)).drop j) rfl (SHD.out _ (by repeat (first | exact HB5.out | exact HB4.out | exact HB3.out | exact Below.refl _ _ | apply up_drew | apply up_drewN | apply up_alloc)) _ (by first | exact .inl rfl | exact .inr hij.out)) (fun h => by cases h) (by omega) (by simp) ?_)
            intro ao2 k2 w2 hown2 hg2
            try rw [List.nil_append, Nat.zero_add] at hown2
            try rw [Nat.zero_add]
            have hb2 : Below wr.heap.size wr w2 := Below.grown (by repeat (first | exact HB5.out | exact HB4.out | exact HB3.out | exact Below.refl _ _ | apply up_drew | apply up_drewN | apply up_alloc)) hg2 (by simp) (fun k e => by simp [Value.ownBlock] at e; omega)
            have E2 := hide hb2
            have HTL := hide (sh_of_owns hown2)
            have hk2 := (cap_owns hown2).2.2
            have HK2 := hide hk2
            have HOJ := hide ((HSH.out.below hb2).take j hj0)
            have HN2 := hide (HNA.out.below hb2 hba)
            have hba2 : ba < w2.heap.size := Nat.lt_of_lt_of_le hba hb2.size
            have hjc : (j : Int) ≤ c' := by omega
            have HIN : Hid (((C.map (fun p => p.1)).take j ++ [x.1]) ++ (C.map (fun p => p.1)).drop j = (insJ C x j).map (fun p => p.1)) := by
              show _ = _
              simp [insJ]
            have HS := hide (ten HN2.out)
            clear hown2 hg2 hk2 hb2 SHD c0 HRA
            go_wp2
            go_region_held3 (fun wX => wX.cell? ⟨ba, oa + i * 10, none⟩ = some (.slice x.1.na x.1.nn x.1.nc) ∧ wX.cell? ⟨ba, oa + i * 10 + 1, none⟩ = some (.int .i64 x.1.ino) ∧ wX.cell? ⟨ba, oa + i * 10 + 2, none⟩ = some (.int .i64 x.1.kind) ∧ wX.cell? ⟨ba, oa + i * 10 + 3, none⟩ = some (.int .i64 x.1.mode) ∧ wX.cell? ⟨ba, oa + i * 10 + 4, none⟩ = some (.int .i64 x.1.uid) ∧ wX.cell? ⟨ba, oa + i * 10 + 5, none⟩ = some (.int .i64 x.1.gid) ∧ wX.cell? ⟨ba, oa + i * 10 + 6, none⟩ = some (.slice x.1.da x.1.dn x.1.dc) ∧ wX.cell? ⟨ba, oa + i * 10 + 7, none⟩ = some (.string x.1.tg) ∧ wX.cell? ⟨ba, oa + i * 10 + 8, none⟩ = some (.slice x.1.xa x.1.xn x.1.xc) ∧ wX.cell? ⟨ba, oa + i * 10 + 9, none⟩ = some (.bool x.1.op)) (exact ten (HN2.out.below (by repeat (first | exact HB5.out | exact HB4.out | exact HB3.out | exact Below.refl _ _ | apply up_drew | apply up_drewN | apply up_alloc)) hba2))
              ((first
                | (refine step_append_nod _ (by rfl) (.tmp 39) (.tmp 42) (by rfl) w2 (by repeat (first | exact HB5.out | exact HB4.out | exact HB3.out | exact Below.refl _ _ | apply up_drew | apply up_drewN | apply up_alloc)) _ _ _ [] (by rfl) (by first | exact emptyN' (by simp) (by simp) | exact (emptyN' (by simp) (by simp)).alloc _) _ _ _ ((C.map (fun p => p.1)).take j) (by rfl) (HOJ.out.below (by repeat (first | exact HB5.out | exact HB4.out | exact HB3.out | exact Below.refl _ _ | apply up_drew | apply up_drewN | apply up_alloc))) (fun h => by cases h) j (by omega) _ rfl (by omega) ?_; intro ao3 k3 w3 hown3 hg3 hb3; have HO3 := hide hown3; have HG3 := hide hg3; have HB3 := hide hb3; clear hown3 hg3 hb3)
                | (refine step_append_nod _ (by rfl) (.tmp 43) (.tmp 48) (by rfl) w2 (by repeat (first | exact HB5.out | exact HB4.out | exact HB3.out | exact Below.refl _ _ | apply up_drew | apply up_drewN | apply up_alloc)) _ _ _ ((C.map (fun p => p.1)).take j) (by rfl) (by first | exact HO3.out | exact HO3.out.alloc _) _ _ _ [x.1] (by rfl) (by first | exact sh_one' (by simp) | exact box_keep (by first | exact heap_new' (by simp) | exact heap_old' (heap_new' (by simp))) HG3.out (by simp [Value.ownBlock])) (fun h => by cases h) (j + 1) (by omega) _ rfl (by omega) ?_; intro ao4 k4 w4 hown4 hg4 hb4; have HO4 := hide hown4; have HB4 := hide hb4; clear hown4 hg4 hb4)
                | (refine step_append_nod _ (by rfl) (.tmp 49) (.tmp 50) (by rfl) w2 (by repeat (first | exact HB5.out | exact HB4.out | exact HB3.out | exact Below.refl _ _ | apply up_drew | apply up_drewN | apply up_alloc)) _ _ _ ((C.map (fun p => p.1)).take j ++ [x.1]) (by rfl) (by first | exact HO4.out) _ _ _ ((C.map (fun p => p.1)).drop j) (by rfl) (HTL.out.below (by repeat (first | exact HB5.out | exact HB4.out | exact HB3.out | exact Below.refl _ _ | apply up_drew | apply up_drewN | apply up_alloc))) HK2.out (i + 1) (by omega) _ HIN.out (by omega) ?_; intro ao5 k5 w5 hown5 hg5 hb5; have HO5 := hide hown5; have HB5 := hide hb5; clear hown5 hg5 hb5)))
            all_goals (
              have HF := hide (HSO.out.ins HLN.out hi HX.out hj0 HI.out HEX.out (E2.out.trans (HB5.out.mono E2.out.size)) (owns_low HO5.out E2.out.size))
              go_wp2
              exact ⟨⟨i + 1, ao5, k5, insJ C x j, rfl, by go_num, by omega, HF.out⟩, by simp [intOf]; omega⟩)
    · have hd : decide ((i : Int) < n) = false := by simpa using hi
      obtain rfl : i = n := by omega
      clear hso
      go_wp2
      go_ret
      exact ⟨ao, c', C, rfl, HSO.out⟩
end Go.Proofs.Ytppmekmaclolbaa

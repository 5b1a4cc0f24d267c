/- Layer 7: the reference's Kids, walked. -/
import Derived.Test.YtppmekmaclolbaaTreLook
namespace Go.Proofs.Ytppmekmaclolbaa
set_option linter.unusedVariables false
open Go.RowKit Go.Maps
open Nam Tre Stb

theorem emptyI {w : World} {B : Nat} (hB : B ≤ w.heap.size) : (w.alloc (.cells #[] 3)).ownsRow B 3 1 (.slice (some ⟨w.heap.size, 0, none⟩) 0 0) 0 [] :=
  ⟨rfl, .inr ⟨w.heap.size, 0, #[], rfl, hB, heap_alloc_new w _, Nat.le_refl _, by unfold maxLen; omega, rfl, rfl⟩⟩
set_option maxRecDepth 100000 in
theorem last_any (a : Option Addr) (n c : Nat) (l : List ByteArray) (p : Nat) (w : World) (hl : Rs w a n l) (hp : n = p + 1) (hn : n ≤ 1000000) :
    Calls Try.prog 47 #[.slice a n c] w fun e w' => e = .returned (.string (gs l p)) ∧ w' = w := by
  have hll := hl.1
  obtain ⟨b, off, rfl, hb, hcell⟩ : ∃ b off, a = some ⟨b, off, none⟩ ∧ b < w.heap.size ∧ ∀ i, i < l.length → w.cell? ⟨b, off + i, none⟩ = some (.string (gs l i)) := by
    rcases hl.2 with h | h
    · omega
    · exact h
  have c1 := hcell p (by omega)
  have v1 : IntKind.i64.wrap ((n : Int) - 1) = (p : Int) := by rw [IntWalk.i64_in _ (by omega)]; omega
  have i1 : (p : Int) < n := by omega
  clear hcell hl hll hp
  go_enter Try.func47, Try.ntmps47
  go_wp2
  go_ret
  exact ⟨rfl, rfl⟩
namespace Stb
/-- The row while the last one is moved down: what stands from k on is moved up. -/
def mvd (C : Nat → Nat) (k : Nat) : Nat → Nat := fun x => if x ≤ k then C x else C (x - 1)
theorem mvd_start {C : Nat → Nat} {m x : Nat} (h : x < m + 1) : mvd C m x = C x := by
  unfold mvd; rw [if_pos (by omega)]
theorem mvd_step (C : Nat → Nat) (k : Nat) : (fun x => if x = k + 1 then mvd C (k + 1) k else mvd C (k + 1) x) = mvd C k := by
  funext x
  simp only [mvd]
  repeat' split
  all_goals first | rfl | (exfalso; omega) | (congr 1; omega)
theorem mvd_end {C : Nat → Nat} {k m x : Nat} (hk : k ≤ m) (hx : x < m + 1) : (if x = k then C m else mvd C k x) = rot C k m (m + 1) x := by
  simp only [mvd, rot]
  repeat' split
  all_goals first | rfl | (exfalso; omega) | (congr 1; omega)
end Stb
/-- The row so far: what is within among the first i, in order. -/
structure KR (w wr : World) (L : List (Nv × Nod)) (k : List ByteArray) (i kn kc : Nat) (ko : Option Addr) (D : Nat → Nat) : Prop where
  row : wr.ownsRow w.heap.size 3 1 (.slice ko kn kc) kn (ivs kn D)
  srd : Srd (kl L k.length) D 0 kn
  inn : ∀ x, In D 0 kn x ↔ (x < i ∧ kid L k x = true)
  bel : Below w.heap.size w wr
  knl : kn ≤ i
theorem KR.isKids {w wr : World} {L : List (Nv × Nod)} {k : List ByteArray} {kn kc : Nat} {ko : Option Addr} {D : Nat → Nat} (h : KR w wr L k L.length kn kc ko D) : IsKids L k ((List.range kn).map D) := by
  constructor
  · rw [List.pairwise_map]
    refine (List.pairwise_lt_range (n := kn)).imp_of_mem ?_
    intro i j hi hj hij
    exact h.srd i j (Nat.zero_le _) hij (by simpa using hj)
  · intro i
    rw [List.mem_map, ← h.inn i]
    exact ⟨fun ⟨x, h1, h2⟩ => ⟨x, Nat.zero_le _, by simpa using h1, h2⟩, fun ⟨x, _, h1, h2⟩ => ⟨x, by simpa using h1, h2⟩⟩
theorem KR.next {w wr w4 : World} {L : List (Nv × Nod)} {k : List ByteArray} {i kn kc c' g kk : Nat} {ko : Option Addr} {D : Nat → Nat} (h : KR w wr L k i kn kc ko D) (hki : kid L k i = true)
    (hrow : w4.ownsRow w.heap.size 3 1 (.slice (some ⟨g, 0, none⟩) (kn + 1) c') (kn + 1) (ivs (kn + 1) (fun x => if x = kk then i else mvd (fun x => if x = kn then i else D x) kk x))) (hb : Below w.heap.size w w4) (hkk : kk ≤ kn)
    (h3 : kk = 0 ∨ kl L k.length (D (kk - 1)) i) (h4 : kk = kn ∨ kl L k.length i (D kk)) :
    KR w w4 L k (i + 1) (kn + 1) c' (some ⟨g, 0, none⟩) (rot (fun x => if x = kn then i else D x) kk kn (kn + 1)) := by
  have hmg : Mg (kl L k.length) (fun x => if x = kn then i else D x) (rot (fun x => if x = kn then i else D x) kk kn (kn + 1)) 0 (kn + 1) := by
    refine mg_down (kl_trans L _) (h.srd.same fun x _ hx => if_neg (by omega)) (Nat.zero_le _) hkk ?_ ?_
    · rcases h3 with c | c
      · exact .inl c
      · by_cases c0 : kk = 0
        · exact .inl c0
        · refine .inr ?_
          show kl L k.length (if kk - 1 = kn then i else D (kk - 1)) (if kn = kn then i else D kn)
          rw [if_neg (by omega), if_pos rfl]; exact c
    · rcases h4 with c | c
      · exact .inl c
      · by_cases c0 : kk = kn
        · exact .inl c0
        · refine .inr ?_
          show kl L k.length (if kn = kn then i else D kn) (if kk = kn then i else D kk)
          rw [if_pos rfl, if_neg c0]; exact c
  refine ⟨?_, hmg.srd, fun x => ?_, hb, by have := h.knl; omega⟩
  · have e : ivs (kn + 1) (rot (fun x => if x = kn then i else D x) kk kn (kn + 1)) = ivs (kn + 1) (fun x => if x = kk then i else mvd (fun x => if x = kn then i else D x) kk x) := List.map_congr_left fun x hx => by
      have hx' : x < kn + 1 := by simpa using hx
      have := mvd_end (C := fun x => if x = kn then i else D x) hkk hx'
      simp only [if_true] at this
      rw [← this]
    rw [e]; exact hrow
  · rw [hmg.inn, In.parts (Nat.zero_le kn) (Nat.le_succ kn), In.same (C := D) (fun y _ hy => if_neg (by omega)), h.inn]
    constructor
    · rintro (⟨h1, h2⟩ | ⟨y, y1, y2, e⟩)
      · exact ⟨by omega, h2⟩
      · obtain rfl : y = kn := by omega
        simp at e; subst e; exact ⟨by omega, hki⟩
    · rintro ⟨h1, h2⟩
      by_cases c : x = i
      · exact .inr ⟨kn, Nat.le_refl _, by omega, by simp [c]⟩
      · exact .inl ⟨by omega, h2⟩
theorem KR.skip {w wr w4 : World} {L : List (Nv × Nod)} {k : List ByteArray} {i kn kc : Nat} {ko : Option Addr} {D : Nat → Nat} (h : KR w wr L k i kn kc ko D) (hki : kid L k i = false) (hrow : w4.ownsRow w.heap.size 3 1 (.slice ko kn kc) kn (ivs kn D)) (hb : Below w.heap.size w w4) : KR w w4 L k (i + 1) kn kc ko D := by
  refine ⟨hrow, h.srd, fun x => ?_, hb, by have := h.knl; omega⟩
  rw [h.inn]
  constructor
  · rintro ⟨h1, h2⟩; exact ⟨by omega, h2⟩
  · rintro ⟨h1, h2⟩
    by_cases c : x = i
    · subst c; rw [hki] at h2; cases h2
    · exact ⟨by omega, h2⟩
theorem ivs_app (kn i : Nat) (D : Nat → Nat) : ((List.range kn).map D ++ [i]).map (fun z : Nat => Value.int .i64 (z : Int)) = ivs (kn + 1) (fun x => if x = kn then i else D x) := by
  unfold ivs
  rw [List.range_succ, List.map_append, List.map_append, List.map_map]
  congr 1
  · refine List.map_congr_left fun x hx => ?_
    have : x < kn := by simpa using hx
    simp [show ¬ x = kn by omega]
  · simp
theorem kid_eq {L : List (Nv × Nod)} {k : List ByteArray} {i m : Nat} (hm : k.length = m) (h : (gl L i).2.names.length = m + 1) : decide ((gl L i).2.names.take m = k) = kid L k i := by
  subst hm
  unfold kid
  rw [decide_eq_true h]; rfl
set_option maxRecDepth 100000 in
set_option maxHeartbeats 2000000 in
theorem refKids_any (a : Option Addr) (n c : Nat) (L : List (Nv × Nod)) (b : Option Addr) (m d : Nat) (k : List ByteArray) (w : World) (hl : Ns w a n L) (hc : n ≤ c) (hcm : c ≤ 9223372036854775807) (hk : Rs w b m k) (hmd : m ≤ 9223372036854775807) (h20 : ∀ p ∈ L, p.2.names.length ≤ 1000000) (hn : n ≤ 60) :
    Calls Try.prog 17 #[.slice a n c, .slice b m d] w fun e w' => ∃ ao kn kc K, e = .returned (.slice ao kn kc) ∧ Ki w' ao kn K ∧ kn ≤ 60 ∧ kn ≤ kc ∧ kc ≤ 9223372036854775807 ∧ IsKids L k K ∧ Below w.heap.size w w' := by
  have HL := hide hl
  have HLN := hide hl.1
  have HK := hide hk
  have H20 := hide h20
  clear hl hk h20
  go_enter Try.func17, Try.ntmps17
  go_wp2
  go_loopw [5, 6, 7, 8] (fun r5 r6 _ _ wr => ∃ (i kn kc : Nat) (ko : Option Addr) (D : Nat → Nat), r5 = .slice ko kn kc ∧ r6 = .int .i64 i ∧ i ≤ n ∧ KR w wr L k i kn kc ko D) (fun _ r6 _ _ _ => n - (intOf r6).toNat)
  case atStart => exact ⟨0, 0, 0, _, fun _ => 0, rfl, rfl, Nat.zero_le _, emptyI (Nat.le_refl _), fun i j h1 h2 h3 => by omega, fun x => ⟨fun ⟨y, h1, h2, _⟩ => by omega, fun h => by omega⟩, (Below.refl _ _).alloc (Nat.le_refl _) _, Nat.le_refl _⟩
  case round =>
    obtain ⟨i, kn, kc, ko, D, rfl, rfl, hi0, hkr⟩ := hrel
    have HKR := hide hkr
    have hkn := hkr.knl
    have hcap := cap_owns hkr.row
    by_cases hi : i < n
    · have hd : decide ((i : Int) < n) = true := by simpa using hi
      have hil : i < L.length := by rw [HLN.out]; exact hi
      obtain ⟨ba, oa, rfl, hba, hca⟩ := (HL.out.below hkr.bel).at (by omega)
      have c0 := (hca i hi).c0
      have hrep := (HL.out.below hkr.bel).2.1 _ (gl_mem L i hil)
      have i1 : (i : Int) < n := by omega
      have hnl := hrep.names.1
      have hnm := H20.out _ (gl_mem L i hil)
      have hkm : k.length = m := HK.out.1
      have HB := hide hkr.bel
      by_cases hlen : (gl L i).1.nn = m + 1
      · obtain ⟨m1, hm1⟩ : ∃ m1, m1 = m + 1 := ⟨_, rfl⟩
        have vm : IntKind.i64.wrap ((m : Int) + 1) = (m1 : Int) := by rw [IntWalk.i64_in _ (by omega)]; omega
        have hv1 : ((m1 : Int) != m1) = false := by simp
        have vs : (m : Int) ≤ (gl L i).1.nc := by have := hrep.nc; omega
        have HCA := hide (refSame_one (gl L i).1.na b m (gl L i).1.nc m d ((gl L i).2.names.take m) k wr (hrep.names.take m (by omega)) (HK.out.below hkr.bel) (by omega))
        rw [kid_eq hkm (by omega)] at HCA
        have HNI : Hid (∀ W, Below w.heap.size w W → Rs W (gl L i).1.na m1 (gl L i).2.names) := fun W h => by
          have := ((HL.out.below h).2.1 _ (gl_mem L i hil)).names
          rw [hlen, ← hm1] at this
          exact this
        have HKY : Hid (ky L m i = (gs (gl L i).2.names m).toList) := rfl
        have HM1 := hide hm1
        have hm1b : m1 ≤ 1000000 := by omega
        have HKM := hide hkm
        rw [hlen, ← hm1] at c0
        generalize (gl L i).1.na = vna at *
        generalize (gl L i).1.nc = vnc at *
        generalize hno : (gl L i).2.names = vno at *
        generalize hki : kid L k i = z at *
        have HKI := hide hki
        clear hca hrep hnl hnm hkr hkm hlen hm1 hki hno
        cases z
        · have HN := hide (HKR.out.skip (w4 := wr) HKI.out HKR.out.row HKR.out.bel)
          go_wp2_with (go_at_call 25; refine HCA.out.mono ?_; rintro e0 w1 ⟨rfl, q, rfl⟩)
          refine ⟨⟨i + 1, kn, kc, ko, D, rfl, by go_num, by omega, ?_⟩, by simp [intOf]; omega⟩
          exact ⟨HN.out.row, HN.out.srd, HN.out.inn, bdn HN.out.bel q, HN.out.knl⟩
        · go_wp2_with (first | (go_at_call 25; refine HCA.out.mono ?_; rintro e0 w1 ⟨rfl, q, rfl⟩) | (at_builtin; refine wpList_append_int _ rfl _ _ rfl w.heap.size _ _ _ ((List.range kn).map D) rfl ?_ _ i rfl ?_ (by omega) ?_ ?_))
          · rw [← ivs_map]
            exact (owns_drewN HKR.out.row q).alloc _
          · rw [World.cell?_alloc_at _ _ _ _ (by simp)]; rfl
          · simp; have := HKR.out.bel.size; omega
          intro ao' c' w3 hown2 hg2
          have e := ivs_app kn i D
          simp only [List.map_append, List.map_map, List.map_cons, List.map_nil] at e
          rw [e] at hown2
          have hb3 := ((bdn HKR.out.bel q).alloc HKR.out.bel.size (.cells #[.int .i64 (i : Int)] 3)).grown hg2 (by have := HKR.out.bel.size; simp; omega) (fun x e => (HKR.out.row.lt x e).1)
          obtain ⟨g, c2, hv, hg3, hg4⟩ := hown2.form (by omega)
          obtain ⟨rfl, rfl⟩ : ao' = some ⟨g, 0, none⟩ ∧ c' = c2 := by simpa using hv
          have hgl := hown2.lt g rfl
          have HI0 : Hid (IR w3 w.heap.size g (kn + 1) c' w3 (mvd (fun x => if x = kn then i else D x) kn)) := by
            refine ⟨?_, Below.refl _ _⟩
            have e : ivs (kn + 1) (mvd (fun x => if x = kn then i else D x) kn) = ivs (kn + 1) (fun x => if x = kn then i else D x) := List.map_congr_left fun x hx => by rw [mvd_start (by simpa using hx)]
            rw [e]; exact hown2
          have HB3 := hide hb3
          have hgw : w.heap.size ≤ g := hgl.1
          obtain ⟨k1, hk1⟩ : ∃ k1, k1 = kn + 1 := ⟨_, rfl⟩
          have HK1 := hide hk1
          rw [← hk1] at HI0
          clear hown2 hg2 hb3 hv hg3 hg4 hgl HCA hk1 e
          obtain ⟨W, rfl⟩ : ∃ W, W = wr := ⟨wr, rfl⟩
          go_wp2
          go_loopw [8] (fun r8 wr => ∃ kk : Nat, r8 = .int .i64 kk ∧ kk ≤ kn ∧ IR w3 w.heap.size g k1 c' wr (mvd (fun x => if x = kn then i else D x) kk) ∧ (kk = kn ∨ kl L k.length i (D kk))) (fun r8 _ => (intOf r8).toNat)
          case atStart => exact ⟨kn, rfl, Nat.le_refl _, HI0.out, .inl rfl⟩
          case round =>
            obtain ⟨kk, rfl, hkk, hir, hlt⟩ := hrel
            have HI := hide hir
            have HLT := hide hlt
            have hbw : Below w.heap.size w wr := HB3.out.trans (hir.bel.mono hgw)
            have HBW := hide hbw
            have zf := hir.row.frozenAt kk
            have ck := hir.cell (k := kk) (by have := HK1.out; omega)
            have hkx : (kk : Int) < (kn : Int) + 1 := by omega
            have HST : Hid (∀ z, IR w3 w.heap.size g k1 c' (wr.setCell ⟨g, kk, none⟩ (.int .i64 (z : Nat))) (fun x => if x = kk then z else mvd (fun x => if x = kn then i else D x) kk x)) := fun z => hir.set kk z
            generalize hold : mvd (fun x => if x = kn then i else D x) kk kk = old at *
            by_cases hk0 : 0 < kk
            · have hd0 : decide ((kk : Int) > 0) = true := by simp; omega
              have hd1 : decide ((0 : Int) < kk) = true := by simp; omega
              obtain ⟨t, ht⟩ : ∃ t, kk = t + 1 := ⟨kk - 1, by omega⟩
              have vt : IntKind.i64.wrap ((kk : Int) - 1) = (t : Int) := by rw [IntWalk.i64_in _ (by omega)]; omega
              have et : mvd (fun x => if x = kn then i else D x) kk t = D t := by
                show (if t ≤ kk then (if t = kn then i else D t) else _) = D t
                rw [if_pos (by omega), if_neg (by omega)]
              have ct := hir.cell (k := t) (by have := HK1.out; omega)
              rw [et] at ct
              have htx : (t : Int) < (kn : Int) + 1 := by omega
              have hin := (HKR.out.inn (D t)).1 ⟨t, Nat.zero_le _, by omega, rfl⟩
              have HSTP : Hid (IR w3 w.heap.size g k1 c' (wr.setCell ⟨g, kk, none⟩ (.int .i64 (D t : Nat))) (mvd (fun x => if x = kn then i else D x) t)) := by
                have h1 := HST.out (D t)
                have h2 := mvd_step (fun x => if x = kn then i else D x) t
                rw [← ht, et] at h2
                rw [h2] at h1
                exact h1
              have HTT := hide ht
              obtain ⟨X, hX⟩ : ∃ X, D t = X := ⟨_, rfl⟩
              rw [hX] at ct hin HSTP
              have hxn : X < n := by omega
              have hxl : X < L.length := by rw [HLN.out]; exact hxn
              obtain ⟨ba', oa', hab, hba', hca'⟩ := (HL.out.below hbw).at (by omega)
              obtain ⟨rfl, rfl⟩ : ba = ba' ∧ oa = oa' := by simpa using hab
              have cx := (hca' X hxn).c0
              have hrx := (HL.out.below hbw).2.1 _ (gl_mem L X hxl)
              have hkX := hin.2
              simp only [kid, Bool.and_eq_true, decide_eq_true_eq] at hkX
              have hnX : (gl L X).1.nn = m1 := by have := hrx.names.1; have := HM1.out; have := HKM.out; omega
              rw [hnX] at cx
              have hRX := hrx.names
              rw [hnX] at hRX
              have HLX := hide (last_any (gl L X).1.na m1 (gl L X).1.nc (gl L X).2.names m wr hRX HM1.out hm1b)
              have HLI := hide (last_any vna m1 vnc vno m wr (HNI.out _ hbw) HM1.out hm1b)
              have ix : (X : Int) < n := by omega
              have HXT := hide hX
              have HXI := hide hin.1
              have hky : ky L m X = (gs (gl L X).2.names m).toList := rfl
              have hkyi := HKY.out
              have HPOS : Hid (Op.bytesLess (gs vno m).toList (gs (gl L X).2.names m).toList = true → kl L k.length i X) := fun h => .inl (by rw [HKM.out, hky, hkyi]; exact h)
              have HNEG : Hid (Op.bytesLess (gs vno m).toList (gs (gl L X).2.names m).toList = false → kl L k.length X i) := fun h => by
                rw [← hky, ← hkyi] at h
                rw [HKM.out]
                by_cases e : ky L m X = ky L m i
                · exact .inr ⟨e, hin.1⟩
                · rcases bless_total _ _ e with c | c
                  · exact .inl c
                  · rw [c] at h; cases h
              generalize gs (gl L X).2.names m = sX at *
              generalize gs vno m = sI at *
              generalize (gl L X).1.na = xna at *
              generalize (gl L X).1.nc = xnc at *
              clear hca' hrx hRX hkX hnX hin hir hlt hbw hX ht et hab hky hkyi
              by_cases hbl : Op.bytesLess sI.toList sX.toList = true
              · have HP := hide (HPOS.out hbl)
                have hb1 : Op.bytesLess sX.toList sI.toList = false := bless_asymm _ _ hbl
                have hb2 : (sX.toList == sI.toList) = false := by
                  rw [beq_eq_false_iff_ne]
                  intro e
                  rw [e, bless_irrefl] at hbl
                  cases hbl
                clear HPOS HNEG hbl
                go_wp2_with (go_at_call 47; first | (refine HLX.out.mono ?_; rintro e0 w1 ⟨rfl, rfl⟩) | (refine HLI.out.mono ?_; rintro e0 w1 ⟨rfl, rfl⟩))
                have h1 := HTT.out
                exact ⟨⟨t, rfl, by omega, HSTP.out, .inr (by rw [HXT.out]; exact HP.out)⟩, by simp [intOf]; omega⟩
              · have hbl2 : Op.bytesLess sI.toList sX.toList = false := by simpa using hbl
                have HP := hide (HNEG.out hbl2)
                have HFIN : Hid (KR w (wr.setCell ⟨g, kk, none⟩ (.int .i64 (i : Nat))) L k (i + 1) (kn + 1) c' (some ⟨g, 0, none⟩) (rot (fun x => if x = kn then i else D x) kk kn (kn + 1))) := by
                  have h1 := HST.out i
                  rw [HK1.out] at h1
                  refine HKR.out.next HKI.out h1.row (HB3.out.trans (h1.bel.mono hgw)) hkk (.inr ?_) HLT.out
                  rw [show kk - 1 = t by have := HTT.out; omega, HXT.out]; exact HP.out
                clear HPOS HNEG hbl
                by_cases hb1 : Op.bytesLess sX.toList sI.toList = true
                · clear hbl2
                  go_wp2_with (go_at_call 47; first | (refine HLX.out.mono ?_; rintro e0 w1 ⟨rfl, rfl⟩) | (refine HLI.out.mono ?_; rintro e0 w1 ⟨rfl, rfl⟩))
                  exact ⟨⟨i + 1, kn + 1, c', _, _, by go_num, by go_num, by omega, HFIN.out⟩, by simp [intOf]; omega⟩
                · have hb1' : Op.bytesLess sX.toList sI.toList = false := by simpa using hb1
                  have hb2 : (sX.toList == sI.toList) = true := by
                    rw [beq_iff_eq]
                    by_cases e : sX.toList = sI.toList
                    · exact e
                    · rcases bless_total _ _ e with c | c
                      · rw [c] at hb1'; cases hb1'
                      · rw [c] at hbl2; cases hbl2
                  clear hbl2 hb1
                  go_wp2_with (go_at_call 47; first | (refine HLX.out.mono ?_; rintro e0 w1 ⟨rfl, rfl⟩) | (refine HLI.out.mono ?_; rintro e0 w1 ⟨rfl, rfl⟩))
                  exact ⟨⟨i + 1, kn + 1, c', _, _, by go_num, by go_num, by omega, HFIN.out⟩, by simp [intOf]; omega⟩
            · have hd0 : decide ((kk : Int) > 0) = false := by simp; omega
              have hd1 : decide ((0 : Int) < kk) = false := by simp; omega
              have HFIN : Hid (KR w (wr.setCell ⟨g, kk, none⟩ (.int .i64 (i : Nat))) L k (i + 1) (kn + 1) c' (some ⟨g, 0, none⟩) (rot (fun x => if x = kn then i else D x) kk kn (kn + 1))) := by
                have h1 := HST.out i
                rw [HK1.out] at h1
                exact HKR.out.next HKI.out h1.row (HB3.out.trans (h1.bel.mono hgw)) hkk (.inl (by omega)) HLT.out
              clear hir hlt hbw
              go_wp2
              exact ⟨⟨i + 1, kn + 1, c', _, _, by go_num, by go_num, by omega, HFIN.out⟩, by simp [intOf]; omega⟩
      · have hki : kid L k i = false := kid_short (by omega)
        have HN := hide (hkr.skip (w4 := wr) hki hkr.row hkr.bel)
        obtain ⟨z, hz⟩ : ∃ z, IntKind.i64.wrap ((m : Int) + 1) = z := ⟨_, rfl⟩
        have hzz : (((gl L i).1.nn : Int) != z) = true := by
          have : ((gl L i).1.nn : Int) ≠ z := by
            rw [← hz]
            by_cases hm9 : m + 1 ≤ 9223372036854775807
            · rw [IntWalk.i64_in _ (by omega)]; omega
            · obtain rfl : m = 9223372036854775807 := by omega
              have : IntKind.i64.wrap (((9223372036854775807 : Nat) : Int) + 1) = -9223372036854775808 := by decide
              rw [this]; omega
          simpa using this
        have hzz2 : ¬ (((gl L i).1.nn : Int) = z) := by simpa using hzz
        generalize (gl L i).1 = v at *
        clear hca hrep hnl hnm hkr hkm hlen hki
        go_wp2
        exact ⟨⟨i + 1, kn, kc, ko, D, rfl, by go_num, by omega, HN.out⟩, by simp [intOf]; omega⟩
    · have hd : decide ((i : Int) < n) = false := by simpa using hi
      obtain rfl : i = n := by omega
      have HF : Hid (IsKids L k ((List.range kn).map D)) := by
        have h1 := hkr
        rw [← HLN.out] at h1
        exact h1.isKids
      clear hkr
      go_wp2
      go_ret
      exact ⟨_, _, _, _, rfl, Ki.of (by rw [← ivs_map]; exact HKR.out.row), by omega, hcap.1, hcap.2.1, HF.out, HKR.out.bel⟩
end Go.Proofs.Ytppmekmaclolbaa

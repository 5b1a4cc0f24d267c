/- Layer 11: texts and TakeXattrs, by the document's answer. -/
import Derived.Test.YtgkclldiphcogaaTabTakeX
import Derived.Test.YtgkclldiphcogaaTabRefXat
namespace Go.Proofs.Ytgkclldiphcogaa
set_option linter.unusedVariables false
open Go.RowKit Go.Maps
open Lz (g)
open Crc (ent)
open Frm Mtr Tre Tab
open Cur (sb)

theorem yReadO_any (y n0 c0 : Nat) (X : List Int) (ao0 : Option Addr) (ref : Int) (n : Nat) (m : Int) (hm : m = (n : Int)) (w : World) (h : RdY w y X 0 n0 ao0 n0 c0) (hr : In64 ref) (hn : n ≤ 1000) :
    Calls Try.prog 46 #[.pointer (some ⟨y, 0, none⟩), .int .i64 ref, .int .i64 m] w fun r w' => Below w.heap.size w w' ∧ RdO X ref n (fun k => w.heap.size ≤ k) w' r := by
  subst hm
  have hl := h.bs.1
  have hr2 := hr.2
  by_cases h1 : ref < 0
  · refine (yReadNeg_any y ref n w hr (by constructor <;> omega) (.inl h1)).mono ?_
    rintro r w' ⟨rfl, rfl⟩
    exact ⟨Below.refl _ _, .inl ⟨by unfold rdO; rw [if_pos h1], 1, by omega, rfl⟩⟩
  · obtain ⟨k, rfl⟩ : ∃ k : Nat, ref = k := ⟨ref.toNat, by omega⟩
    have e : (X.take n0).drop 0 = X := by rw [List.drop_zero, List.take_of_length_le (by omega)]
    refine (yRead_any y n0 c0 0 n0 X ao0 k n w h (by omega) (by omega) (by omega) (by omega)).mono ?_
    rw [e]
    rintro r w' ⟨hb, ⟨h3, rfl⟩ | ⟨z, nx, ao, c, h3, rfl, hB, hf, k1, k2, k3⟩⟩
    · exact ⟨hb, .inl ⟨by unfold rdO; rw [if_neg h1, h3], 2, by omega, rfl⟩⟩
    · exact ⟨hb, .inr ⟨z, nx, ao, c, by unfold rdO; rw [if_neg h1, h3], rfl, hB, k1, k2, k3, hf⟩⟩
/-- What the reference's text answers. -/
def RTx (X : List Int) (ref : Int) (r : Ending) : Prop :=
  (txO X ref = none ∧ ∃ e, e ≠ 0 ∧ r = .returned (.tuple #[.string ⟨#[]⟩, .int .i64 0, .int .i64 e])) ∨
  ∃ z nx, txO X ref = some (z, nx) ∧ r = .returned (.tuple #[.string (strOfNums z), .int .i64 nx, .int .i64 0])
set_option maxRecDepth 100000 in
theorem refText11_any (y n0 c0 : Nat) (X : List Int) (ao0 : Option Addr) (ref : Int) (w : World) (h : RdY w y X 0 n0 ao0 n0 c0) (hby : Bytes X) (hr : In64 ref) :
    Calls Try.prog 50 #[.pointer (some ⟨y, 0, none⟩), .int .i64 ref] w fun r w' => Below w.heap.size w w' ∧ RTx X ref r := by
  have hX : X.length ≤ 1000000 := by have := h.bs.1; have := h.lit; omega
  have HR := hide (yReadO_any y n0 c0 X ao0 ref 1 1 rfl w h hr (by omega))
  have HY := hide h
  clear h
  go_enter Try.func50, Try.ntmps50
  go_wp2_with fail
  refine HR.out.mono ?_
  rintro r w1 ⟨b1, ⟨hn, e, he, rfl⟩ | ⟨z, nx, ao, c, hs, rfl, hB, _⟩⟩
  · have HA : Hid (Below w.heap.size w w1 ∧ RTx X ref (.returned (.tuple #[.string ⟨#[]⟩, .int .i64 0, .int .i64 e]))) := ⟨b1, .inl ⟨by unfold txO; rw [hn]; rfl, e, he, rfl⟩⟩
    have he' : (e != 0) = true := by simpa using he
    clear b1 HR
    go_wp2
    go_ret3
    exact HA.out
  · obtain ⟨b, off, x, rfl, hx, hxb, hc⟩ := hB.first
    obtain ⟨a1, a2, a3, a4, a5⟩ := rdO_some hby hs
    have hnx : In64 nx := by
      rcases a5 with a5 | a5
      · omega
      · constructor <;> omega
    have HR2 := hide (yReadO_any y n0 c0 X ao0 nx x x rfl w1 (HY.out.below b1) hnx (by omega))
    have HE : Hid (txO X ref = rdO X nx x) := by show txO X ref = _; unfold txO; rw [hs]; simp only [Option.bind_some, hx, Int.toNat_natCast]
    have HB1 := hide b1
    have hxw : (IntKind.i64.wrap (x : Int)) = (x : Int) := by rw [IntWalk.i64_in _ (by omega)]
    clear b1 hB HR hs
    go_wp2_with fail
    refine HR2.out.mono ?_
    rintro r w2 ⟨b2, ⟨hn, e, he, rfl⟩ | ⟨z2, nx2, ao2, c2, hs2, rfl, hB2, _⟩⟩
    · have s2 := str_any (New.none w2).bs 0
      have HA : Hid (Below w.heap.size w w2 ∧ RTx X ref (.returned (.tuple #[.string ⟨#[]⟩, .int .i64 0, .int .i64 e]))) := ⟨HB1.out.trans (b2.mono HB1.out.size), .inl ⟨by rw [HE.out]; exact hn, e, he, rfl⟩⟩
      have e0 : strOfNums [] = ⟨#[]⟩ := rfl
      rw [e0] at s2
      clear b2 HR2 hc e0
      go_wp2
      go_ret3
      exact HA.out
    · have s2 := str_any hB2 c2
      have HA : Hid (Below w.heap.size w w2 ∧ RTx X ref (.returned (.tuple #[.string (strOfNums z2), .int .i64 nx2, .int .i64 0]))) := ⟨HB1.out.trans (b2.mono HB1.out.size), .inr ⟨z2, nx2, by rw [HE.out]; exact hs2, rfl⟩⟩
      clear b2 HR2 hc hB2
      go_wp2
      go_ret3
      exact HA.out
namespace Tab
/-- 'append' of one attribute to a row of the call's own. -/
theorem wpList_append_xv (w : World) {ops : Array Oper} {rest : List Oper} {o : Oper} {a : Act} {Q : Exit → Act → World → Prop} (hgd : o.guard = none) (s x : Operand)
    (ho : o.op = .call { callee := .builtin .append, args := #[s, x], argTypes := #[28, 28] })
    (base : Nat) (vo : Option Addr) (vc : Nat) (V : List Xv) (hs : a.eval s = .slice vo V.length vc) (hown : w.ownsRow base 69 2 (.slice vo V.length vc) V.length (xvs V))
    (p : Nat) (X : Xv) (hx : a.eval x = .slice (some ⟨p, 0, none⟩) 1 1) (h0 : w.cell? ⟨p, 0, none⟩ = some (.string X.nm)) (h1 : w.cell? ⟨p, 1, none⟩ = some (.slice X.va X.vn X.vc))
    (hbd : V.length + 1 ≤ 1000000) (hbase : base ≤ w.heap.size)
    (h : ∀ b' c' w', w'.ownsRow base 69 2 (.slice (some ⟨b', 0, none⟩) (V.length + 1) c') (V.length + 1) (xvs (V ++ [X])) → w.grownBy w' (Value.slice vo V.length vc).ownBlock → ((Value.slice vo V.length vc).ownBlock = some b' ∨ b' = w.heap.size) → wpList Try.prog ops Q rest (a.put o.dst (.slice (some ⟨b', 0, none⟩) (V.length + 1) c')) w') :
    wpList Try.prog ops Q (o :: rest) a w := by
  obtain ⟨i0, hi, hz0, hz1, hz2⟩ := info_parts infoXat
  refine wpList_append_own_at w hgd s x _ ho base 69 i0 (.agg #[.string ⟨#[]⟩, .slice none 0 0]) 2 40 Try.underlying28 hi hz0 hz1 hz2 rfl (by decide) _ V.length (xvs V) hs hown ⟨p, 0, none⟩ 1 1 X.cs hx (by simp [Xv.cs]) ?_ ?_ (by unfold maxLen; omega) (by omega) hbase ?_
  · intro j u hj
    match j, hj with
    | 0, hj => simp [Xv.cs] at hj; subst hj; simpa [Addr.add] using h0
    | 1, hj => simp [Xv.cs] at hj; subst hj; simpa [Addr.add] using h1
  · intro u hu
    simp [Xv.cs] at hu
    rcases hu with rfl | rfl <;> rfl
  · intro v' w' h2 h3 _ h5
    obtain ⟨g', c', rfl, _⟩ := h2.form (by omega)
    refine h g' c' w' (by rw [xvs_append]; simpa [xvs] using h2) h3 ?_
    rcases h5 with h5 | h5
    · exact .inl h5.symm
    · exact .inr (by simpa [Value.ownBlock] using h5)
/-- A row of attributes of the call's own, since w. -/
structure RJ (w : World) (V : List Xv) (ao : Option Addr) (c : Nat) (W : World) : Prop where
  row : W.ownsRow w.heap.size 69 2 (.slice ao V.length c) V.length (xvs V)
  bel : Below w.heap.size w W
  vals : ∀ x ∈ V, XvOk (fun _ => False) W x ∧ ∀ a, x.va = some a → 0 < x.vn → (Value.slice ao V.length c).ownBlock ≠ some a.block
section
variable {w W W' : World} {V : List Xv} {ao : Option Addr} {c : Nat}
theorem RJ.below (h : RJ w V ao c W) (hb : Below W.heap.size W W') : RJ w V ao c W' :=
  ⟨owns_fr h.row (Fr.of_below (S := fun _ => False) hb) (fun _ _ h => h), h.bel.trans (hb.mono h.bel.size), fun x hx => ⟨(h.vals x hx).1.turn (Fr.of_below (S := fun _ => False) hb) (fun _ _ _ h => h), (h.vals x hx).2⟩⟩
theorem RJ.add (h : RJ w V ao c W) {X : Xv} (hX : XvOk (fun _ => False) W X) (hXn : ∀ a, X.va = some a → 0 < X.vn → (Value.slice ao V.length c).ownBlock ≠ some a.block) {w2 : World} {b' c' : Nat}
    (ho : w2.ownsRow w.heap.size 69 2 (.slice (some ⟨b', 0, none⟩) (V.length + 1) c') (V.length + 1) (xvs (V ++ [X]))) (hg : W.grownBy w2 (Value.slice ao V.length c).ownBlock) (hl : (Value.slice ao V.length c).ownBlock = some b' ∨ b' = W.heap.size) :
    RJ w (V ++ [X]) (some ⟨b', 0, none⟩) c' w2 := by
  refine ⟨by rw [List.length_append]; exact ho, h.bel.grown hg h.bel.size (fun k e => (h.row.lt k e).1), fun x hx => ?_⟩
  have key : XvOk (fun _ => False) W x ∧ ∀ a, x.va = some a → 0 < x.vn → (Value.slice ao V.length c).ownBlock ≠ some a.block := by
    rcases List.mem_append.1 hx with hx | hx
    · exact h.vals x hx
    · rw [List.mem_singleton] at hx; subst hx; exact ⟨hX, hXn⟩
  refine ⟨key.1.turn (Fr.of_grown hg (S := fun k => (Value.slice ao V.length c).ownBlock = some k) (fun k hk => hk)) (fun a ha hn => key.2 a ha hn), fun a ha hn e => ?_⟩
  have e' : b' = a.block := by rw [List.length_append] at e; simpa [Value.ownBlock] using e
  rcases hl with hl | hl
  · rw [e'] at hl; exact key.2 a ha hn hl
  · have := Bs.blt key.1.bs ha hn; omega
end
end Tab
theorem convc_any (w : World) (s : ByteArray) (hs : s.size ≤ 1000000) : ∃ c o, (convert 9 29 (.string s)).run Try.prog w = .ok (.slice (some ⟨w.heap.size, 0, none⟩) s.size c) (w.drew.alloc o) ∧ Bs (w.drew.alloc o) (some ⟨w.heap.size, 0, none⟩) s.size (sb s) ∧ s.size ≤ c ∧ c ≤ 9223372036854775807 := by
  obtain ⟨c, o, h1, h2⟩ := conv_any w s
  refine ⟨c, o, h1, h2, ?_⟩
  have h3 := run_bytes_of_string w 9 29 5 s Try.underlying9 Try.underlying29 Try.underlying5
  rw [h1] at h3
  have h4 : c = grownCap w s.size 0 5 := congrArg (fun r : Result Value => match r with | .ok (.slice _ _ c) _ => c | _ => 0) h3
  have h5 := grownCap_ge w s.size 0 5
  have h6 := grownCap_le_maxLen w s.size 0 5 (by unfold maxLen; omega)
  unfold maxLen at h6
  omega
/-- What the reference's TakeXattrs answers. -/
def RTakesX (X : List Int) (ref : Int) (w' : World) (r : Ending) : Prop :=
  (txA X ref = none ∧ r = .returned (.tuple #[.slice none 0 0, .int .i64 2])) ∨
  ∃ xs ao c, txA X ref = some xs ∧ r = .returned (.tuple #[.slice ao xs.length c, .int .i64 0]) ∧ XsR w' ao xs.length xs
set_option maxRecDepth 100000 in
set_option maxHeartbeats 2000000 in
theorem refTakeXattrs_any (y n0 c0 : Nat) (X : List Int) (ao0 : Option Addr) (ref : Int) (w : World) (h : RdY w y X 0 n0 ao0 n0 c0) (hby : Bytes X) (hr : In64 ref) :
    Calls Try.prog 22 #[.pointer (some ⟨y, 0, none⟩), .int .i64 ref] w fun r w' => Below w.heap.size w w' ∧ RTakesX X ref w' r := by
  have hX : X.length ≤ 1000000 := by have := h.bs.1; have := h.lit; omega
  have HR := hide (yReadO_any y n0 c0 X ao0 ref 1 1 rfl w h hr (by omega))
  have HY := hide h
  clear h
  go_enter Try.func22, Try.ntmps22
  go_wp2_with fail
  refine HR.out.mono ?_
  rintro r w1 ⟨b1, ⟨hn, e, he, rfl⟩ | ⟨z, nx, ao, c, hs, rfl, hB, _⟩⟩
  · have HA : Hid (Below w.heap.size w w1 ∧ RTakesX X ref w1 (.returned (.tuple #[.slice none 0 0, .int .i64 2]))) := ⟨b1, .inl ⟨by unfold txA; rw [hn], rfl⟩⟩
    have he' : (e != 0) = true := by simpa using he
    clear b1 HR
    go_wp2
    go_ret2
    exact HA.out
  · obtain ⟨b, off, x, rfl, hx, hxb, hc⟩ := hB.first
    obtain ⟨a1, a2, a3, a4, a5⟩ := rdO_some hby hs
    have hnx : In64 nx := by
      rcases a5 with a5 | a5
      · omega
      · constructor <;> omega
    have HE : Hid (txA X ref = if x ≠ 0 ∧ (xaR X x nx).length = x ∧ xsOk (xaR X x nx) = true then some (xaR X x nx) else none) := by
      show _ = _
      unfold txA
      rw [hs]
      simp only [hx, Int.toNat_natCast]
    have hxw : (IntKind.i64.wrap (x : Int)) = (x : Int) := by rw [IntWalk.i64_in _ (by omega)]
    have HB1 := hide b1
    have hbl := World.block_lt_of_cell? w1 _ hc
    clear b1 HR hs hB
    by_cases h0 : x = 0
    · have HN : Hid (Below w.heap.size w w1 ∧ RTakesX X ref w1 (.returned (.tuple #[.slice none 0 0, .int .i64 2]))) := ⟨HB1.out, .inl ⟨by rw [HE.out, if_neg (by intro hh; exact hh.1 h0)], rfl⟩⟩
      have h0' : ((x : Int) == 0) = true := by simp; omega
      go_wp2
      go_ret2
      exact HN.out
    · have h0' : ((x : Int) == 0) = false := by simp; omega
      by_cases h8 : 8 < x
      · have HN : Hid (Below w.heap.size w w1 ∧ RTakesX X ref w1 (.returned (.tuple #[.slice none 0 0, .int .i64 2]))) := ⟨HB1.out, .inl ⟨by
          rw [HE.out, if_neg]
          intro hh
          have := (xsOk_mem hh.2.2).1
          omega, rfl⟩⟩
        have h8' : (8 : Int) < (x : Int) := by omega
        go_wp2
        go_ret2
        exact HN.out
      · have h8' : ¬ (8 : Int) < (x : Int) := by omega
        have HJ0 : Hid (RJ w1 [] (some ⟨w1.heap.size, 0, none⟩) 0 (w1.alloc (.cells #[] 69))) :=
          ⟨emptyR (Nat.le_refl _), below_one _ _, fun x hx => by simp at hx⟩
        have HY1 := hide (HY.out.below HB1.out)
        have HBw : Hid (∀ w', Below w1.heap.size w1 w' → Below w.heap.size w w') := fun w' hb => HB1.out.trans (hb.mono HB1.out.size)
        go_wp2_with fail
        go_loopw [7, 9, 10] (fun s7 s9 s10 wr => ∃ (i : Nat) (at' : Int) (V : List Xv) (ao : Option Addr) (cV : Nat), s7 = .int .i64 at' ∧ s9 = .slice ao V.length cV ∧ s10 = .int .i64 i ∧ i ≤ x ∧ V.length = i ∧ In64 at' ∧ RJ w1 V ao cV wr ∧ Hid (xaR X x nx = V.map Xv.pr ++ xaR X (x - i) at')) (fun _ _ s10 _ => x - (intOf s10).toNat)
        case atStart => exact ⟨0, nx, [], _, 0, rfl, rfl, rfl, Nat.zero_le _, rfl, hnx, HJ0.out, rfl⟩
        case round =>
          clear HJ0
          obtain ⟨i, at', V, aV, cV, rfl, rfl, rfl, hi, hVl, hat, hJ, HI⟩ := hrel
          have hcr : wr.cell? ⟨b, off, none⟩ = some (.int .u8 (x : Int)) := (hJ.bel.cell (p := ⟨b, off, none⟩) hbl).trans hc
          have HJ := hide hJ
          by_cases hp : i < x
          · have hd : (i : Int) < (x : Int) := by omega
            have HT := hide (refText11_any y n0 c0 X ao0 at' wr (HY1.out.below hJ.bel) hby hat)
            clear hJ
            go_wp2_with fail
            refine HT.out.mono ?_
            rintro r w2 ⟨b2, ⟨hno, e, he, rfl⟩ | ⟨sz, n1, hsz, rfl⟩⟩
            · have he' : (e != 0) = true := by simpa using he
              have HN : Hid (Below w.heap.size w w2 ∧ RTakesX X ref w2 (.returned (.tuple #[.slice none 0 0, .int .i64 2]))) := ⟨HBw.out _ (HJ.out.bel.trans (b2.mono HJ.out.bel.size)), .inl ⟨by
                rw [HE.out, if_neg]
                intro hh
                have e1 := hh.2.1
                rw [HI.out, xaR_none hno, List.append_nil, List.length_map] at e1
                omega, rfl⟩⟩
              clear b2 HT
              go_wp2
              go_ret2
              exact HN.out
            · obtain ⟨t1, t2, t3, t4⟩ := txO_some hby hsz
              have hn1 : In64 n1 := ⟨by omega, t4 hX⟩
              have HJ2 := hide (HJ.out.below b2)
              have HT2 := hide (refText11_any y n0 c0 X ao0 n1 w2 (HY1.out.below HJ2.out.bel) hby hn1)
              clear b2 HT hcr
              go_wp2_with fail
              refine HT2.out.mono ?_
              rintro r w3 ⟨b3, ⟨hno, e, he, rfl⟩ | ⟨v, n2, hv, rfl⟩⟩
              · have he' : (e != 0) = true := by simpa using he
                have HN : Hid (Below w.heap.size w w3 ∧ RTakesX X ref w3 (.returned (.tuple #[.slice none 0 0, .int .i64 2]))) := ⟨HBw.out _ (HJ2.out.bel.trans (b3.mono HJ2.out.bel.size)), .inl ⟨by
                  rw [HE.out, if_neg]
                  intro hh
                  have e1 := hh.2.1
                  rw [HI.out, xaR_half hsz hno, List.append_nil, List.length_map] at e1
                  omega, rfl⟩⟩
                clear b3 HT2
                go_wp2
                go_ret2
                exact HN.out
              · obtain ⟨u1, u2, u3, u4⟩ := txO_some hby hv
                have hn2 : In64 n2 := ⟨by omega, u4 hX⟩
                have HJ3 := hide (HJ2.out.below b3)
                have hvs : (strOfNums v).size = v.length := strOfNums_size v
                have hss : (strOfNums sz).size ≤ 255 := by rw [strOfNums_size]; exact t1
                obtain ⟨cc, oo, hcv, hbv, hc1, hc2⟩ := convc_any w3 (strOfNums v) (by omega)
                obtain ⟨w4, hw4⟩ : ∃ w4, w4 = w3.drew.alloc oo := ⟨_, rfl⟩
                have b4 : Below w3.heap.size w3 w4 := by rw [hw4]; exact ((Below.refl _ w3).drew).alloc (Nat.le_refl _) _
                have hsz4 : w3.heap.size < w4.heap.size := by rw [hw4]; simp
                rw [← hw4] at hcv hbv
                rw [hvs] at hcv hbv hc1
                rw [Cap.sb_str u3] at hbv
                obtain ⟨w5, hw5⟩ : ∃ w5, w5 = w4.alloc (.cells #[.string (strOfNums sz), .slice (some ⟨w3.heap.size, 0, none⟩) v.length cc] 69) := ⟨_, rfl⟩
                have b5 : Below w4.heap.size w4 w5 := by rw [hw5]; exact below_one _ _
                have hs5 : w4.heap.size ≤ w5.heap.size := b5.size
                have hJ5 := (HJ3.out.below b4).below b5
                have q0 : w5.cell? ⟨w4.heap.size, 0, none⟩ = some (.string (strOfNums sz)) := by rw [hw5]; simp
                have q1 : w5.cell? ⟨w4.heap.size, 1, none⟩ = some (.slice (some ⟨w3.heap.size, 0, none⟩) v.length cc) := by rw [hw5]; simp
                have HQ0 := hide q0
                have HQ1 := hide q1
                have HRow := hide hJ5.row
                have hwb := hJ5.bel.size
                have HAdd := hide (fun w2 b' c' ho hg hl => hJ5.add (X := ⟨strOfNums sz, some ⟨w3.heap.size, 0, none⟩, v.length, cc, v⟩) ⟨hbv.below b5, hc1, hc2, (fun h => by cases h), hss, fun _ _ _ h => h⟩ (fun a ha hn e => by
                  cases ha
                  have := (HJ3.out.row.lt _ e).2
                  simp at this) (w2 := w2) (b' := b') (c' := c') ho hg hl)
                have HW5 := hide hw5
                have HW4 := hide hw4
                clear b3 HT2 b4 b5 hJ5 hbv hw4 hw5 q0 q1 hvs
                go_wp2_with (at_builtin; rw [← HW5.out]; refine wpList_append_xv _ rfl _ _ rfl w1.heap.size aV cV V (by rw [hVl]; rfl) HRow.out w4.heap.size ⟨strOfNums sz, some ⟨w3.heap.size, 0, none⟩, v.length, cc, v⟩ rfl HQ0.out HQ1.out (by omega) hwb ?_; intro b' c' w6 ho hg hl; have HJ6 := hide (HAdd.out w6 b' c' ho hg hl); clear ho hg hl)
                have HN : Hid (xaR X x nx = (V ++ [(⟨strOfNums sz, some ⟨w3.heap.size, 0, none⟩, v.length, cc, v⟩ : Xv)]).map Xv.pr ++ xaR X (x - (i + 1)) n2) := by
                  show _ = _
                  rw [HI.out, show x - i = (x - (i + 1)) + 1 by omega, xaR_one hsz hv]
                  simp [Xv.pr]
                exact ⟨⟨i + 1, n2, V ++ [(⟨strOfNums sz, some ⟨w3.heap.size, 0, none⟩, v.length, cc, v⟩ : Xv)], some ⟨b', 0, none⟩, c', rfl, by simp [hVl], by go_num, by omega, by simp; omega, hn2, HJ6.out, HN⟩, by simp [intOf]; omega⟩
          · obtain rfl : i = x := by omega
            obtain ⟨hxs, hq1, hq2, hq3⟩ := xvs_row hJ.row (fun x hx => (hJ.vals x hx).1)
            have hxe : xaR X i nx = V.map Xv.pr := by rw [HI.out, Nat.sub_self]; unfold xaR; rw [List.append_nil]
            rw [hxe, List.length_map] at HE
            have hml : (V.map Xv.pr).length = V.length := by simp
            have HML := hide hml
            cases hq : xsOk (V.map Xv.pr) with
            | false =>
              have HMy := hide (refXattrs_any aV V.length cV _ wr hxs hq1 hq2 false hq)
              rw [hVl] at HMy
              clear hJ hxs hxe hml
              go_wp2_with fail
              refine HMy.out.mono ?_
              rintro r w2 ⟨rfl, b2⟩
              have HN : Hid (Below w.heap.size w w2 ∧ RTakesX X ref w2 (.returned (.tuple #[.slice none 0 0, .int .i64 2]))) := ⟨HBw.out _ (HJ.out.bel.trans (b2.mono HJ.out.bel.size)), .inl ⟨by rw [HE.out, if_neg (by rw [hq]; simp)], rfl⟩⟩
              clear b2 hq
              go_wp2
              go_ret2
              exact HN.out
            | true =>
              have HMy := hide (refXattrs_any aV V.length cV _ wr hxs hq1 hq2 true hq)
              rw [hVl] at HMy
              have HXs := hide hxs
              clear hJ hxs hxe hml
              go_wp2_with fail
              refine HMy.out.mono ?_
              rintro r w2 ⟨rfl, b2⟩
              have HN : Hid (Below w.heap.size w w2 ∧ RTakesX X ref w2 (.returned (.tuple #[.slice aV i cV, .int .i64 0]))) := ⟨HBw.out _ (HJ.out.bel.trans (b2.mono HJ.out.bel.size)), .inr ⟨V.map Xv.pr, aV, cV, by rw [HE.out, if_pos ⟨h0, hVl, hq⟩], by rw [HML.out, hVl], by rw [HML.out]; exact HXs.out.below b2⟩⟩
              clear b2 hq
              go_wp2
              go_ret2
              exact HN.out
end Go.Proofs.Ytgkclldiphcogaa

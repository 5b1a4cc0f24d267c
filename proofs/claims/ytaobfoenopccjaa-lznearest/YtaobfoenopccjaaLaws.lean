/- The walks of LzMatches, LzUnpacks and LzPacks: each returns true and writes nothing that was there. -/
import Derived.Test.YtaobfoenopccjaaShown
import Derived.OpenShut
import Derived.Laws.AppendOwnNone
namespace Go.Proofs.Ytaobfoenopccjaa
set_option linter.unusedVariables false
open Go.RowKit Go.Maps
open Lz (g cp up unpack pack runs mt)

/-- A slice of bytes that came in. -/
def RowB (w : World) (a : Option Addr) (len cap : Nat) (zs : List Int) : Prop :=
  (a = none ∧ len = 0 ∧ cap = 0 ∧ zs = []) ∨
  ∃ x, a = some x ∧ len ≤ cap ∧ cap ≤ maxLen ∧ zs.length = cap ∧ (∀ i, i < zs.length → w.cell? (x.add i) = some (.int .u8 (zs.getD i 0))) ∧ ∀ n ∈ zs, (Lit.int .u8 n).wf = true

theorem wf_u8 {n : Int} (h : (Lit.int .u8 n).wf = true) : 0 ≤ n ∧ n ≤ 255 := by
  have := bounds_u8 h
  omega
theorem wf_i64_bd {n : Int} (h : (Lit.int .i64 n).wf = true) : -9223372036854775808 ≤ n ∧ n ≤ 9223372036854775807 := by
  have := bounds_i64 h
  omega

theorem Bs.alloc {w : World} {ao : Option Addr} {n : Nat} {zs : List Int} (h : Bs w ao n zs) (o : Obj) : Bs (w.alloc o) ao n zs := h.below ((Below.refl _ _).alloc (Nat.le_refl _) o)
/-- Its first m bytes. -/
theorem RowB.bs {w : World} {a : Option Addr} {len cap : Nat} {zs : List Int} (h : RowB w a len cap zs) (m : Nat) (hm : m ≤ len) : Bs w a m (zs.take m) ∧ len ≤ cap ∧ cap ≤ 9223372036854775807 ∧ Bytes (zs.take m) ∧ (a = none → cap = 0) := by
  rcases h with ⟨rfl, rfl, rfl, rfl⟩ | ⟨x, rfl, hl, hc, hz, hcell, hwf⟩
  · obtain rfl : m = 0 := by omega
    exact ⟨⟨rfl, fun i => by simp [g], .inl rfl⟩, by omega, by omega, fun x hx => by simp at hx, fun _ => rfl⟩
  · have hb : Bytes zs := fun n hn => wf_u8 (hwf n hn)
    refine ⟨⟨by simp; omega, (hb.take m).g, ?_⟩, hl, by unfold maxLen at hc; omega, hb.take m, fun e => by simp at e⟩
    by_cases e : m = 0
    · exact .inl e
    · obtain ⟨b, off, spot⟩ := x
      have hc0 := hcell 0 (by omega)
      have hspot : spot = none := by simpa [Addr.add] using World.cell?_spot hc0
      subst hspot
      have hlt : b < w.heap.size := by
        have := World.block_lt_of_cell? w _ hc0
        simpa [Addr.add] using this
      refine .inr ⟨b, off, rfl, hlt, fun i hi => ?_⟩
      simp at hi
      rw [Lz.g_take _ _ _ (by omega)]
      have := hcell i (by omega)
      rw [Addr.add_lit] at this
      exact this

set_option maxRecDepth 100000 in
set_option maxHeartbeats 4000000 in
theorem matches_walk (a0 : Option Addr) (len0 cap0 : Nat) (z0 : List Int) (a1 : Int) (w : World) (w0 : RowB w a0 len0 cap0 z0) (w1 : (Lit.int .i64 a1).wf = true) :
    Calls Try.prog 5 #[.slice a0 len0 cap0, .int .i64 a1] w fun e w' => e = .returned (.bool true) ∧ Below w.heap.size w w' := by
  obtain ⟨ha1, ha2⟩ := wf_i64_bd w1
  obtain ⟨hbs, hlc, hcm, hby, hnil⟩ := w0.bs (min len0 1000) (by omega)
  generalize z0.take (min len0 1000) = zs at hbs hby
  clear w0
  go_enter Try.func5, Try.ntmps5
  go_wp2_with fail
  refine (shown_any w).mono ?_
  rintro r ws ⟨rfl, hbs0⟩
  go_wp2_with fail
  refine (few_any a0 len0 cap0 1000 ws hlc (by omega)).mono ?_
  rintro r wx ⟨rfl, rfl⟩
  have h1 := hbs.below hbs0
  generalize hm : min len0 1000 = m at *
  have hm1 : m ≤ 1000 := by omega
  have hm2 : m ≤ cap0 := by omega
  clear hm
  go_wp2_with fail
  refine (Match_any a0 m cap0 a1 zs wx h1 (by omega) hm2 ha1 ha2).mono ?_
  rintro r w2 ⟨rfl, hb2⟩
  have h2 := h1.below hb2
  go_wp2_with fail
  refine (refMatch_any a0 m cap0 a1 zs w2 h2 (by omega) ha1 ha2).mono ?_
  rintro r w3 ⟨rfl, nq, rfl⟩
  have HB : Hid (Below w.heap.size w w2) := hbs0.trans (hb2.mono hbs0.size)
  clear h1 h2 hbs hb2 hbs0
  go_wp2
  go_ret
  exact ⟨rfl, below_drewN HB.out nq⟩

theorem Bytes.nil : Bytes [] := fun x hx => by simp at hx
theorem Bytes.snoc {out : List Int} (h : Bytes out) (i : Nat) : Bytes (out ++ [Lz.g out i]) := h.append (fun x hx => by simp at hx; rw [hx]; exact h.g i)
theorem Bytes.cp (back : Nat) : ∀ (n : Nat) {out : List Int}, Bytes out → Bytes (Lz.cp back n out)
  | 0, out, h => h
  | n + 1, out, h => by unfold Lz.cp; exact Bytes.cp back n (h.snoc _)
theorem Bytes.upF (most : Int) : ∀ (f : Nat) {b out : List Int}, Bytes b → Bytes out → Bytes (Lz.upF most f b out).1
  | 0, b, out, _, h => h
  | f + 1, b, out, hb, h => by
    rw [Lz.upF_succ]
    split
    · exact h
    · split
      · split
        · exact Bytes.nil
        · split
          · exact Bytes.nil
          · exact Bytes.upF most f (hb.drop _) (h.append ((hb.take _).drop _))
      · split
        · exact Bytes.nil
        · split
          · exact Bytes.nil
          · exact Bytes.upF most f (hb.drop _) (Bytes.cp _ _ h)
theorem Bytes.unpack {b : List Int} (h : Bytes b) (most : Int) : Bytes (Lz.unpack b most).1 := by
  unfold Lz.unpack
  split
  · exact Bytes.nil
  · exact Bytes.upF most _ h Bytes.nil

/-- 'append' to a row of bytes of the call's own, of bytes wherever they lie, none too. -/
theorem wpList_append_bs (w : World) {ops : Array Oper} {rest : List Oper} {o : Oper} {a : Act} {Q : Exit → Act → World → Prop} (hgd : o.guard = none) (s x : Operand)
    (ho : o.op = .call { callee := .builtin .append, args := #[s, x], argTypes := #[22, 22] })
    (base : Nat) (vo : Option Addr) (n vc : Nat) (xs : List Int) (hs : a.eval s = .slice vo n vc) (hown : w.ownsRow base 5 1 (.slice vo n vc) n (bv xs))
    (ao : Option Addr) (m c : Nat) (zs : List Int) (hx : a.eval x = .slice ao m c) (hb : Bs w ao m zs) (hnil : ao = none → c = 0)
    (hbd : n + m ≤ 100000000) (hbase : base ≤ w.heap.size)
    (h : ∀ ao' c' w', w'.ownsRow base 5 1 (.slice ao' (n + m) c') (n + m) (bv (xs ++ zs)) → w.grownBy w' (Value.slice vo n vc).ownBlock → wpList Try.prog ops Q rest (a.put o.dst (.slice ao' (n + m) c')) w') :
    wpList Try.prog ops Q (o :: rest) a w := by
  obtain ⟨i0, hi, hz0, hz1, hz2⟩ := info_parts infoByte
  obtain ⟨hz, hby, h0⟩ := hb
  cases ao with
  | none =>
    obtain rfl : c = 0 := hnil rfl
    obtain rfl : m = 0 := by
      rcases h0 with h0 | ⟨b, off, h1, _⟩
      · exact h0
      · simp at h1
    obtain rfl : zs = [] := List.eq_nil_of_length_eq_zero hz
    refine wpList_append_own_none hgd s x _ ho base 5 i0 1 Try.underlying22 hi _ n (bv xs) hs hown hx ?_
    have := h vo vc w (by simpa using hown) (World.grownBy.refl _ _)
    simpa using this
  | some ad =>
    refine wpList_append_own w hgd s x _ ho base 5 i0 (.int .u8 0) 1 1 Try.underlying22 hi hz0 hz1 hz2 rfl (by decide) _ n (bv xs) hs hown ad m c (bv zs) hx (by rw [bv_length]; omega) ?_ (bv_one _) (by unfold maxLen; omega) (by omega) hbase ?_
    · rcases h0 with h0 | ⟨b, off, h1, _, hseg⟩
      · have : zs = [] := List.eq_nil_of_length_eq_zero (by omega)
        subst this
        intro j u hu; simp [bv] at hu
      · obtain rfl := Option.some.inj h1
        have := news_seg hseg m
        rw [List.take_of_length_le (by omega)] at this
        exact this
    · intro v' w' h2 h3 _
      obtain ⟨ao', c', rfl⟩ := owns_shape h2
      exact h ao' c' w' (by rw [bv_append]; exact h2) h3

set_option maxRecDepth 100000 in
set_option maxHeartbeats 4000000 in
theorem unpacks_walk (a0 : Option Addr) (len0 cap0 : Nat) (z0 : List Int) (a1 : Int) (w : World) (w0 : RowB w a0 len0 cap0 z0) (w1 : (Lit.int .i64 a1).wf = true) :
    Calls Try.prog 4 #[.slice a0 len0 cap0, .int .i64 a1] w fun e w' => e = .returned (.bool true) ∧ Below w.heap.size w w' := by
  obtain ⟨ha1, ha2⟩ := wf_i64_bd w1
  obtain ⟨hbs, hlc, hcm, hby, hnil⟩ := w0.bs (min len0 1000) (by omega)
  obtain ⟨i0, hi, hz0, hz1, hz2⟩ := info_parts infoByte
  generalize z0.take (min len0 1000) = zs at hbs hby
  clear w0
  go_enter Try.func4, Try.ntmps4
  go_wp2_with fail
  refine (shown_any w).mono ?_
  rintro r ws ⟨rfl, hbs0⟩
  go_wp2_with fail
  refine (few_any a0 len0 cap0 1000 ws hlc (by omega)).mono ?_
  rintro r wx ⟨rfl, rfl⟩
  have h1 := hbs.below hbs0
  generalize hm : min len0 1000 = m at *
  have hm1 : m ≤ 1000 := by omega
  have hm2 : m ≤ cap0 := by omega
  clear hm
  go_wp2_with (at_builtin; refine wpList_append_bs _ rfl _ _ rfl w.heap.size _ 0 0 [] rfl (emptyB hbs0.size) a0 m cap0 zs rfl (h1.alloc _) hnil (by omega) (Nat.le_trans hbs0.size (by simp)) ?_; intro ao1 c1 w1 o1 k1)
  simp only [Nat.zero_add, List.nil_append] at o1
  have b1 := bs_of_owns o1 hby
  have hb1 : Below wx.heap.size wx w1 := ((Below.refl _ _).alloc (Nat.le_refl _) _).grown k1 (by simp) (fun k e => by simp [Value.ownBlock] at e; omega)
  have hc1 := cap_of_owns o1
  have hub := Bytes.unpack hby a1
  clear k1
  refine (Unpack_any m c1 a1 ao1 zs w1 b1 hc1 (by omega) ha2).mono ?_
  rintro r w2 ⟨ao2, n2, c2, rfl, o2, bl2⟩
  have b2 := bs_of_owns o2 hub
  have h2 := (h1.below hb1).below bl2
  go_wp2_with fail
  refine (refUnpack_any m cap0 a1 a0 zs w2 h2 hm2 (by omega) ha2).mono ?_
  rintro r w3 ⟨ao3, n3, c3, rfl, o3, bl3⟩
  have b3 := bs_of_owns o3 hub
  have s1 := str_any (b2.below bl3) c2
  have s2 := str_any b3 c3
  have HB : Hid (Below w.heap.size w w3) := by
    have e1 := hbs0.trans (hb1.mono hbs0.size)
    have e2 := e1.trans (bl2.mono e1.size)
    exact e2.trans (bl3.mono e2.size)
  clear h1 h2 hbs hb1 hbs0 b1 b2 b3 o1 o2 o3 bl2 bl3 hub hnil
  go_wp2
  go_ret
  exact ⟨rfl, HB.out⟩

set_option maxRecDepth 100000 in
set_option maxHeartbeats 4000000 in
theorem packs_walk (a0 : Option Addr) (len0 cap0 : Nat) (z0 : List Int) (w : World) (w0 : RowB w a0 len0 cap0 z0) :
    Calls Try.prog 3 #[.slice a0 len0 cap0] w fun e w' => e = .returned (.bool true) ∧ Below w.heap.size w w' := by
  obtain ⟨hbs, hlc, hcm, hby, hnil⟩ := w0.bs (min len0 5000) (by omega)
  obtain ⟨i0, hi, hz0, hz1, hz2⟩ := info_parts infoByte
  generalize z0.take (min len0 5000) = zs at hbs hby
  clear w0
  go_enter Try.func3, Try.ntmps3
  go_wp2_with fail
  refine (shown_any w).mono ?_
  rintro r ws ⟨rfl, hbs0⟩
  go_wp2_with fail
  refine (few_any a0 len0 cap0 5000 ws hlc (by omega)).mono ?_
  rintro r wx ⟨rfl, rfl⟩
  have h1 := hbs.below hbs0
  generalize hm : min len0 5000 = m at *
  have hm1 : m ≤ 5000 := by omega
  have hm2 : m ≤ cap0 := by omega
  clear hm
  go_wp2_with (at_builtin; refine wpList_append_bs _ rfl _ _ rfl w.heap.size _ 0 0 [] rfl (emptyB hbs0.size) a0 m cap0 zs rfl (h1.alloc _) hnil (by omega) (Nat.le_trans hbs0.size (by simp)) ?_; intro ao1 c1 w1 o1 k1)
  simp only [Nat.zero_add, List.nil_append] at o1
  have b1 := bs_of_owns o1 hby
  have hb1 : Below wx.heap.size wx w1 := ((Below.refl _ _).alloc (Nat.le_refl _) _).grown k1 (by simp) (fun k e => by simp [Value.ownBlock] at e; omega)
  have hc1 := cap_of_owns o1
  have hpb := hby.pack
  clear k1
  refine (Pack_any m c1 ao1 zs w1 b1 hc1 hm1).mono ?_
  rintro r w2 (⟨d, rfl, rfl⟩ | ⟨d, ao2, n2, c2, rfl, o2, bl2⟩)
  · have h2 := h1.below hb1
    go_wp2_with fail
    refine (refPack_any m cap0 a0 zs w2 h2 hm2 hm1).mono ?_
    rintro r w3 (⟨d', rfl, rfl⟩ | ⟨d', ao3, n3, c3, rfl, o3, bl3⟩)
    · have s1 := str_any (w := w3) (ao := none) (n := 0) (zs := []) ⟨rfl, fun i => by simp [g], .inl rfl⟩ 0
      have s2 := str_any b1 c1
      have s3 := str_any h2 cap0
      have HB : Hid (Below w.heap.size w w3) := hbs0.trans (hb1.mono hbs0.size)
      clear h1 h2 hbs hb1 hbs0 b1 o1 hpb hnil
      go_wp2
      go_ret
      exact ⟨rfl, HB.out⟩
    · omega
  · have h2 := (h1.below hb1).below bl2
    have b2 := bs_of_owns o2 hpb
    go_wp2_with fail
    refine (refPack_any m cap0 a0 zs w2 h2 hm2 hm1).mono ?_
    rintro r w3 (⟨d', rfl, rfl⟩ | ⟨d', ao3, n3, c3, rfl, o3, bl3⟩)
    · omega
    · have b3 := bs_of_owns o3 hpb
      have s1 := str_any (b2.below bl3) c2
      have s2 := str_any b3 c3
      have s3 := str_any ((b1.below bl2).below bl3) c1
      have s4 := str_any (h2.below bl3) cap0
      have HB : Hid (Below w.heap.size w w3) := by
        have e1 := hbs0.trans (hb1.mono hbs0.size)
        have e2 := e1.trans (bl2.mono e1.size)
        exact e2.trans (bl3.mono e2.size)
      clear h1 h2 hbs hb1 hbs0 b1 b2 b3 o1 o2 o3 bl2 bl3 hpb hnil
      go_wp2
      go_ret
      exact ⟨rfl, HB.out⟩
end Go.Proofs.Ytaobfoenopccjaa

/- Layer 11: TakeXattrs, by the program. -/
import Derived.Test.YtgkclldiphcogaaTabIter
import Derived.Test.YtgkclldiphcogaaTabXat
import Derived.Test.YtgkclldiphcogaaRange
import Derived.Deep.AppendLies
namespace Go.Proofs.Ytgkclldiphcogaa
set_option linter.unusedVariables false
open Go.RowKit Go.Maps Go.Shelf
open Lz (g)
open Crc (ent)
open Frm Mtr Tre Tab
attribute [local go_sem] Oper.semAt_some

namespace Tab
/-- An attribute's cells, and what its value's are. -/
structure Xv where
  nm : ByteArray
  va : Option Addr
  vn : Nat
  vc : Nat
  val : List Int
def Xv.pr (x : Xv) : ByteArray × List Int := (x.nm, x.val)
def Xv.cs (x : Xv) : List Value := [.string x.nm, .slice x.va x.vn x.vc]
def xvs (V : List Xv) : List Value := V.flatMap Xv.cs
theorem xvs_append (V U : List Xv) : xvs (V ++ U) = xvs V ++ xvs U := by simp [xvs]
theorem xvs_length (V : List Xv) : (xvs V).length = V.length * 2 := by
  induction V with
  | nil => rfl
  | cons x r ih =>
    have : xvs (x :: r) = x.cs ++ xvs r := rfl
    rw [this]
    simp [Xv.cs, ih]; omega
theorem xvs_at (V : List Xv) (i : Nat) (h : i < V.length) : (xvs V)[i * 2]? = some (.string V[i].nm) ∧ (xvs V)[i * 2 + 1]? = some (.slice V[i].va V[i].vn V[i].vc) := by
  induction V generalizing i with
  | nil => simp at h
  | cons x r ih =>
    have : xvs (x :: r) = .string x.nm :: .slice x.va x.vn x.vc :: xvs r := rfl
    rw [this]
    match i with
    | 0 => simp
    | i + 1 =>
      have hi := ih i (by simp at h; omega)
      rw [show (i + 1) * 2 = i * 2 + 1 + 1 by omega]
      simp only [List.getElem?_cons_succ, List.getElem_cons_succ]
      exact hi
/-- A value's bytes lie where no reader writes. -/
structure XvOk (O : Nat → Prop) (W : World) (x : Xv) : Prop where
  bs : Bs W x.va x.vn x.val
  cap : x.vn ≤ x.vc
  max : x.vc ≤ 9223372036854775807
  nil : x.va = none → x.vc = 0
  sz : x.nm.size ≤ 255
  no : ∀ a, x.va = some a → 0 < x.vn → ¬ O a.block
theorem Bs.blt {w : World} {ao : Option Addr} {n : Nat} {z : List Int} (h : Bs w ao n z) {a : Addr} (ha : ao = some a) (hn : 0 < n) : a.block < w.heap.size := by
  rcases h.2.2 with h0 | ⟨b, off, h1, h2, _⟩
  · omega
  · rw [ha] at h1
    obtain rfl := Option.some.inj h1
    exact h2
theorem XvOk.read {O O' : Nat → Prop} {A B : World} {x : Xv} (h : XvOk O A x) (hf : Fr O A B) (hg : Gr O O' A) : XvOk O' B x :=
  { h with
    bs := h.bs.fr hf h.no
    no := fun a ha hn hx => by
      rcases hg _ hx with hx | hx
      · exact h.no a ha hn hx
      · have := Bs.blt h.bs ha hn; omega }
/-- Blocks have turned that are none of its own. -/
theorem XvOk.turn {O S : Nat → Prop} {A B : World} {x : Xv} (h : XvOk O A x) (hf : Fr S A B) (hS : ∀ a, x.va = some a → 0 < x.vn → ¬ S a.block) : XvOk O B x := { h with bs := h.bs.fr hf hS }
/-- What the loop holds: the row of attributes that came, in the variable at Bl; the record at l, the block for deferred calls at D, the reader's variable at B3. -/
structure TJ (w : World) (Bl l D B3 p : Nat) (rc : Loop) (pre : List (ByteArray × List Int)) (O : Nat → Prop) (W : World) : Prop where
  ex : ∃ (V : List Xv) (ao : Option Addr) (c : Nat), Go.Boxed W Bl 28 (.slice ao V.length c) ∧ W.ownsRow w.heap.size 69 2 (.slice ao V.length c) V.length (xvs V) ∧ pre = V.map Xv.pr ∧
    (∀ x ∈ V, XvOk O W x ∧ ∀ a, x.va = some a → 0 < x.vn → a.block ≠ Bl ∧ a.block ≠ l ∧ (Value.slice ao V.length c).ownBlock ≠ some a.block) ∧ (∀ k, (Value.slice ao V.length c).ownBlock = some k → ¬ O k)
  nb : ¬ O Bl
  bw : w.heap.size ≤ Bl
  rl : W.heap[l]? = some (.loop rc)
  nl : ¬ O l
  lw : w.heap.size ≤ l
  rd : W.heap[D]? = some (.deferred (some []))
  nd : ¬ O D
  dw : w.heap.size ≤ D
  r3 : W.heap[B3]? = some (.cells #[.pointer (some ⟨p, 0, none⟩)] 41 (0, 0))
  n3 : ¬ O B3
theorem gr_not {O O' : Nat → Prop} {A : World} {k : Nat} (hg : Gr O O' A) (h : ¬ O k) (hk : k < A.heap.size) : ¬ O' k := fun hx => by
  rcases hg _ hx with hx | hx
  · exact h hx
  · omega
theorem TJ.step {w : World} {Bl l D B3 p : Nat} {rc : Loop} {pre : List (ByteArray × List Int)} {O O' : Nat → Prop} {A B : World} (h : TJ w Bl l D B3 p rc pre O A) (hf : Fr O A B) (hg : Gr O O' A) : TJ w Bl l D B3 p rc pre O' B := by
  obtain ⟨V, ao, c, h1, h2, h3, h4, h5⟩ := h.ex
  refine ⟨⟨V, ao, c, (hf.block _ h1.lt h.nb).trans h1, owns_fr h2 hf h5, h3, fun x hx => ⟨(h4 x hx).1.read hf hg, (h4 x hx).2⟩, fun k hk => gr_not hg (h5 k hk) (h2.lt k hk).2⟩, gr_not hg h.nb h1.lt, h.bw,
    (hf.block _ (heap_lt h.rl) h.nl).trans h.rl, gr_not hg h.nl (heap_lt h.rl), h.lw, (hf.block _ (heap_lt h.rd) h.nd).trans h.rd, gr_not hg h.nd (heap_lt h.rd), h.dw, (hf.block _ (heap_lt h.r3) h.n3).trans h.r3, gr_not hg h.n3 (heap_lt h.r3)⟩
theorem infoXat : (Try.prog.info? 69).map (fun i => (i.zero, i.size, i.bytes)) = some (some (.agg #[.string ⟨#[]⟩, .slice none 0 0]), 2, 40) := by kernel_rfl
/-- 'append' of one attribute to a row of the call's own, within a round. -/
theorem wpListIn_append_xv {F : Fence} {nF : Nat} (w : World) {ops : Array Oper} {rest : List Oper} {o : Oper} {a : Act} {Q : Exit → Act → World → Prop} (hgd : o.guard = none) (s x : Operand)
    (ho : o.op = .call { callee := .builtin .append, args := #[s, x], argTypes := #[28, 28] })
    (base : Nat) (vo : Option Addr) (vc : Nat) (V : List Xv) (hs : a.eval s = .slice vo V.length vc) (hown : w.ownsRow base 69 2 (.slice vo V.length vc) V.length (xvs V))
    (p : Nat) (X : Xv) (hx : a.eval x = .slice (some ⟨p, 0, none⟩) 1 1) (h0 : w.cell? ⟨p, 0, none⟩ = some (.string X.nm)) (h1 : w.cell? ⟨p, 1, none⟩ = some (.slice X.va X.vn X.vc))
    (hbd : V.length + 1 ≤ 1000000) (hbase : base ≤ w.heap.size)
    (h : ∀ b' c' w', w'.ownsRow base 69 2 (.slice (some ⟨b', 0, none⟩) (V.length + 1) c') (V.length + 1) (xvs (V ++ [X])) → w.grownBy w' (Value.slice vo V.length vc).ownBlock → ((Value.slice vo V.length vc).ownBlock = some b' ∨ b' = w.heap.size) → wpListIn F nF Try.prog ops Q rest (a.put o.dst (.slice (some ⟨b', 0, none⟩) (V.length + 1) c')) w') :
    wpListIn F nF Try.prog ops Q (o :: rest) a w := by
  obtain ⟨i0, hi, hz0, hz1, hz2⟩ := info_parts infoXat
  refine wpListIn_plain hgd fun K hK' => ?_
  obtain ⟨g', cap, w', hr, r1, r2, r3, _⟩ := run_append_lies (P := Try.prog) (w := w) 28 o.type base 69 i0 (.agg #[.string ⟨#[]⟩, .slice none 0 0]) 2 40 Try.underlying28 hi hz0 hz1 hz2 rfl (by decide) (.slice vo V.length vc) V.length (xvs V) hown ⟨p, 0, none⟩ 1 1 X.cs (by simp [Xv.cs]) (by
    intro j u hj
    match j, hj with
    | 0, hj => simp [Xv.cs] at hj; subst hj; simpa [Addr.add] using h0
    | 1, hj => simp [Xv.cs] at hj; subst hj; simpa [Addr.add] using h1) (by intro u hu; simp [Xv.cs] at hu; rcases hu with rfl | rfl <;> rfl) (by decide) (by unfold maxLen; omega) (by omega) hbase w.heap.size rfl
  unfold Oper.wpIn
  refine ⟨?_, ?_⟩
  · simp [Oper.about, ho, resolve, Target.leads, Sem.run_pure]
  · rw [Oper.semAt_plain F _ _ (by rw [ho]; intro c hc'; cases hc')]
    simp [execOp, ho, resolve, invoke, builtin, hs, hx, hr, Result.andThen]
    refine hK' _ _ (h g' cap w' (by rw [xvs_append]; simpa [xvs] using r1) r2 ?_)
    exact r3
section
variable {w W : World} {Bl l D B3 p : Nat} {rc bc : Loop} {pre : List (ByteArray × List Int)} {O : Nat → Prop}
/-- A value that came since lies in none of the loop's blocks. -/
theorem tj_new {ao : Option Addr} {n c : Nat} (h1 : Go.Boxed W Bl 28 (.slice ao n c)) {va : Option Addr} (hnew : ∃ A O1, TJ w Bl l D B3 p rc pre O1 A ∧ Fr O1 A W ∧ Gr O1 O A ∧ ∀ a, va = some a → A.heap.size ≤ a.block) :
    ∀ a, va = some a → a.block ≠ Bl ∧ a.block ≠ l ∧ (Value.slice ao n c).ownBlock ≠ some a.block := by
  obtain ⟨A, O1, hA, hF, _, hb⟩ := hnew
  intro a ha
  have hs := hb a ha
  obtain ⟨V2, ao2, c2, k1, k2, _⟩ := hA.ex
  have e : W.heap[Bl]? = some (.cells #[.slice ao2 V2.length c2] 28 (0, 0)) := (hF.block _ k1.lt hA.nb).trans k1
  rw [show W.heap[Bl]? = _ from h1] at e
  simp at e
  obtain ⟨rfl, rfl, rfl⟩ := e
  refine ⟨fun e => ?_, fun e => ?_, fun e => ?_⟩
  · have := k1.lt; omega
  · have := heap_lt hA.rl; omega
  · have := (k2.lt _ e).2; omega
theorem tj_round (h : TJ w Bl l D B3 p rc pre O W) {V : List Xv} {ao : Option Addr} {c : Nat} (h1 : Go.Boxed W Bl 28 (.slice ao V.length c)) (h2 : W.ownsRow w.heap.size 69 2 (.slice ao V.length c) V.length (xvs V)) (h3 : pre = V.map Xv.pr)
    (h4 : ∀ x ∈ V, XvOk O W x ∧ ∀ a, x.va = some a → 0 < x.vn → a.block ≠ Bl ∧ a.block ≠ l ∧ (Value.slice ao V.length c).ownBlock ≠ some a.block) (h5 : ∀ k, (Value.slice ao V.length c).ownBlock = some k → ¬ O k)
    (X : Xv) (hX : XvOk O W X) (hXn : ∀ a, X.va = some a → a.block ≠ Bl ∧ a.block ≠ l ∧ (Value.slice ao V.length c).ownBlock ≠ some a.block) (hO : ∀ k, O k → k < W.heap.size) {tb : Nat} (htb : tb < w.heap.size)
    {Wa w2 : World} {o2 : Obj} {b' c' : Nat} (ha : Below W.heap.size W Wa)
    (ho : w2.ownsRow w.heap.size 69 2 (.slice (some ⟨b', 0, none⟩) (V.length + 1) c') (V.length + 1) (xvs (V ++ [X]))) (hg : ((Wa.putObj l (.loop bc)).alloc o2).grownBy w2 (Value.slice ao V.length c).ownBlock)
    (hl : (Value.slice ao V.length c).ownBlock = some b' ∨ b' = ((Wa.putObj l (.loop bc)).alloc o2).heap.size) :
    Go.Boxed w2 Bl 28 (.slice ao V.length c) ∧ (w2.setCell ⟨Bl, 0, none⟩ (.slice (some ⟨b', 0, none⟩) (V.length + 1) c')).heap[l]? = some (.loop bc) ∧
    TJ w Bl l D B3 p rc (pre ++ [X.pr]) O ((w2.setCell ⟨Bl, 0, none⟩ (.slice (some ⟨b', 0, none⟩) (V.length + 1) c')).putObj l (.loop rc)) ∧
    Fr (fun k => ¬ (O k ∨ k = tb ∨ k = B3) ∧ w.heap.size ≤ k) W ((w2.setCell ⟨Bl, 0, none⟩ (.slice (some ⟨b', 0, none⟩) (V.length + 1) c')).putObj l (.loop rc)) := by
  have hBll : Bl ≠ l := fun e => by have := h.rl; rw [← e, show W.heap[Bl]? = _ from h1] at this; cases this
  have hown_ne : ∀ k o, W.heap[k]? = some o → (∀ cur, o ≠ .cells cur 69 (0, 0)) → (Value.slice ao V.length c).ownBlock ≠ some k := fun k o hk hn e => by
    obtain ⟨cur, hc⟩ := owns_obj h2 e
    rw [hk] at hc
    exact hn cur (Option.some.inj hc)
  have nBl := hown_ne Bl _ h1 (fun cur e => by simp at e)
  have nl := hown_ne l _ h.rl (fun cur e => by cases e)
  have nD := hown_ne D _ h.rd (fun cur e => by cases e)
  have n3 := hown_ne B3 _ h.r3 (fun cur e => by simp at e)
  have hDl : D ≠ l := fun e => by have := h.rl; rw [← e, h.rd] at this; cases this
  have hDB : D ≠ Bl := fun e => by have := h.rd; rw [e, show W.heap[Bl]? = _ from h1] at this; cases this
  have h3l : B3 ≠ l := fun e => by have := h.rl; rw [← e, h.r3] at this; cases this
  have h3B : B3 ≠ Bl := fun e => by have := h.r3; rw [e, show W.heap[Bl]? = _ from h1] at this; simp at this
  -- the world up to the append
  have fa : Fr (One l) W ((Wa.putObj l (.loop bc)).alloc o2) := by
    refine Fr.alloc ?_ o2
    refine ⟨ha.os, ha.tape, ha.output, by simpa using ha.size, fun k hk hn => ?_⟩
    exact (World.putObj_heap_other (fun e => hn e)).trans (ha.block k hk)
  have f2 : Fr (fun k => k = l ∨ (Value.slice ao V.length c).ownBlock = some k) W w2 := by
    refine (fa.mono (fun i _ hi => .inl hi)).trans (Fr.of_grown hg (S := fun k => (Value.slice ao V.length c).ownBlock = some k) (fun k hk => hk)) (fun i _ hi => .inr hi)
  have hsz2 := f2.size
  have b2 : Go.Boxed w2 Bl 28 (.slice ao V.length c) := (f2.block Bl h1.lt (fun hx => by
    rcases hx with hx | hx
    · exact hBll hx
    · exact nBl hx)).trans h1
  have hlW := heap_lt h.rl
  have l1 : ((Wa.putObj l (.loop bc)).alloc o2).heap[l]? = some (.loop bc) := (Below.heap_alloc _ _ _ (by simpa using Nat.lt_of_lt_of_le hlW ha.size)).trans (World.putObj_heap_same (Nat.lt_of_lt_of_le hlW ha.size))
  have l2 : w2.heap[l]? = some (.loop bc) := (hg.block l (heap_lt l1) (fun e => nl e.symm)).trans l1
  have l3 : (w2.setCell ⟨Bl, 0, none⟩ (.slice (some ⟨b', 0, none⟩) (V.length + 1) c')).heap[l]? = some (.loop bc) := (Below.heap_setCell _ _ _ _ (fun e => hBll e.symm)).trans l2
  have f4 : Fr (fun k => k = l ∨ k = Bl ∨ (Value.slice ao V.length c).ownBlock = some k) W ((w2.setCell ⟨Bl, 0, none⟩ (.slice (some ⟨b', 0, none⟩) (V.length + 1) c')).putObj l (.loop rc)) := by
    have f3 : Fr (fun k => k = l ∨ k = Bl ∨ (Value.slice ao V.length c).ownBlock = some k) W (w2.setCell ⟨Bl, 0, none⟩ (.slice (some ⟨b', 0, none⟩) (V.length + 1) c')) :=
      (f2.mono (fun i _ hi => hi.elim .inl (fun x => .inr (.inr x)))).set _ (fun _ => .inr (.inl rfl))
    exact ⟨f3.os, f3.tape, f3.output, by simpa using f3.size, fun k hk hn => (World.putObj_heap_other (fun e => hn (.inl e))).trans (f3.block k hk hn)⟩
  have hnb' : some Bl ≠ (Value.slice (some ⟨b', 0, none⟩) (V.length + 1) c').ownBlock := b2.not_row (by decide) ho
  have hbnew : (Value.slice ao V.length c).ownBlock = some b' ∨ W.heap.size ≤ b' := by
    rcases hl with hl | hl
    · exact .inl hl
    · exact .inr (by have := fa.size; omega)
  refine ⟨b2, l3, ⟨⟨V ++ [X], some ⟨b', 0, none⟩, c', ?_, ?_, ?_, ?_, ?_⟩, h.nb, h.bw, World.putObj_heap_same (heap_lt l3), h.nl, h.lw, ?_, h.nd, h.dw, ?_, h.n3⟩, ?_⟩
  · have := b2.set (.slice (some ⟨b', 0, none⟩) (V.length + 1) c')
    rw [List.length_append]
    exact (World.putObj_heap_other hBll).trans this
  · rw [List.length_append]
    exact ownsRow_putObj (ho.kept (grownBy_setCell' w2 Bl _) (.inr hnb'.symm)) _ l3 rfl
  · rw [h3, List.map_append]; rfl
  · intro x hx
    have key : XvOk O W x ∧ ∀ a, x.va = some a → 0 < x.vn → a.block ≠ Bl ∧ a.block ≠ l ∧ (Value.slice ao V.length c).ownBlock ≠ some a.block := by
      rcases List.mem_append.1 hx with hx | hx
      · exact h4 x hx
      · rw [List.mem_singleton] at hx
        subst hx
        exact ⟨hX, fun a ha _ => hXn a ha⟩
    refine ⟨key.1.turn f4 (fun a ha hn hs => ?_), fun a ha hn => ?_⟩
    · obtain ⟨q1, q2, q3⟩ := key.2 a ha hn
      rcases hs with hs | hs | hs
      · exact q2 hs
      · exact q1 hs
      · exact q3 hs
    · obtain ⟨q1, q2, q3⟩ := key.2 a ha hn
      refine ⟨q1, q2, fun e => ?_⟩
      have e' : b' = a.block := by rw [List.length_append] at e; simpa [Value.ownBlock] using e
      rcases hbnew with hb | hb
      · rw [e'] at hb; exact q3 hb
      · have := Bs.blt key.1.bs ha hn; omega
  · intro k hk hx
    have e' : b' = k := by rw [List.length_append] at hk; simpa [Value.ownBlock] using hk
    subst e'
    rcases hbnew with hb | hb
    · exact h5 _ hb hx
    · have := hO _ hx; omega
  · refine (f4.block D (heap_lt h.rd) (fun hs => ?_)).trans h.rd
    rcases hs with hs | hs | hs
    · exact hDl hs
    · exact hDB hs
    · exact nD hs
  · refine (f4.block B3 (heap_lt h.r3) (fun hs => ?_)).trans h.r3
    rcases hs with hs | hs | hs
    · exact h3l hs
    · exact h3B hs
    · exact n3 hs
  · refine f4.mono (fun k hk hs => ?_)
    rcases hs with hs | hs | hs
    · subst hs
      exact ⟨fun hx => by
        rcases hx with hx | hx | hx
        · exact h.nl hx
        · have := h.lw; omega
        · exact h3l hx.symm, h.lw⟩
    · subst hs
      exact ⟨fun hx => by
        rcases hx with hx | hx | hx
        · exact h.nb hx
        · have := h.bw; omega
        · exact h3B hx.symm, h.bw⟩
    · have hb := (h2.lt k hs).1
      exact ⟨fun hx => by
        rcases hx with hx | hx | hx
        · exact h5 k hs hx
        · omega
        · rw [hx] at hs; exact n3 hs, hb⟩
end
theorem xvs_row {W : World} {B c : Nat} {ao : Option Addr} {V : List Xv} {O : Nat → Prop} (h2 : W.ownsRow B 69 2 (.slice ao V.length c) V.length (xvs V)) (h4 : ∀ x ∈ V, XvOk O W x) : XsR W ao V.length (V.map Xv.pr) ∧ V.length ≤ c ∧ c ≤ 9223372036854775807 ∧ (ao = none → c = 0) := by
  have hcap : V.length ≤ c ∧ c ≤ 9223372036854775807 ∧ (ao = none → c = 0) := by
    rcases h2.2 with ⟨e, h0⟩ | ⟨g', cap, cur, e, _, _, q1, q2, _⟩
    · simp at e
      obtain ⟨rfl, e2, rfl⟩ := e
      exact ⟨by omega, by omega, fun _ => rfl⟩
    · simp at e
      obtain ⟨rfl, rfl⟩ := e
      exact ⟨q1, by unfold maxLen at q2; omega, fun h => by cases h⟩
  refine ⟨⟨by simp, ?_⟩, hcap⟩
  by_cases h0 : V.length = 0
  · exact .inl h0
  · obtain ⟨b, c', hv, _, hlt⟩ := h2.form (by omega)
    obtain ⟨rfl, rfl⟩ : ao = some ⟨b, 0, none⟩ ∧ c = c' := by simpa using hv
    refine .inr ⟨b, 0, rfl, hlt, fun i hi => ?_⟩
    rw [Nat.zero_add, gx_lt _ _ (by simpa using hi), List.getElem_map]
    obtain ⟨e1, e2⟩ := xvs_at V i hi
    have hk := h4 V[i] (List.getElem_mem _)
    exact ⟨(h2.cellAt (i * 2) (by omega)).trans e1, _, _, _, (h2.cellAt (i * 2 + 1) (by omega)).trans e2, hk.bs, hk.cap, hk.max, hk.nil, by show V[i].nm.size ≤ _; have := hk.sz; omega⟩
/-- Every cell stays. -/
structure CK (w w' : World) : Prop where
  size : w.heap.size ≤ w'.heap.size
  cell : ∀ a v, w.cell? a = some v → w'.cell? a = some v
theorem CK.put {W : World} {k : Nat} {o : Obj} (o' : Obj) (h : W.heap[k]? = some o) (hc : o.isCells = false) : CK W (W.putObj k o') :=
  ⟨by simp, fun a v ha => cell_kept ha (grownBy_putObj' W k o') (fun r e => by cases e; exact ⟨o, h, hc⟩)⟩
theorem CK.bs {w w' : World} (h : CK w w') {ao : Option Addr} {n : Nat} {z : List Int} (hb : Bs w ao n z) : Bs w' ao n z := by
  refine ⟨hb.1, hb.2.1, ?_⟩
  rcases hb.2.2 with h0 | ⟨b, off, h1, h2, h3⟩
  · exact .inl h0
  · exact .inr ⟨b, off, h1, Nat.lt_of_lt_of_le h2 h.size, fun i hi => h.cell _ _ (h3 i hi)⟩
theorem CK.xs {w w' : World} (h : CK w w') {ao : Option Addr} {n : Nat} {xs : List (ByteArray × List Int)} (hx : XsR w ao n xs) : XsR w' ao n xs := by
  refine ⟨hx.1, ?_⟩
  rcases hx.2 with h0 | ⟨b, off, h1, h2, h3⟩
  · exact .inl h0
  · refine .inr ⟨b, off, h1, Nat.lt_of_lt_of_le h2 h.size, fun i hi => ?_⟩
    obtain ⟨q1, va, vn, vc, q2, q3, q4⟩ := h3 i hi
    exact ⟨h.cell _ _ q1, va, vn, vc, h.cell _ _ q2, h.bs q3, q4⟩
theorem fr_put (W : World) (k : Nat) (o : Obj) : Fr (One k) W (W.putObj k o) := ⟨rfl, rfl, rfl, by simp, fun i _ hn => World.putObj_heap_other (fun e => hn e)⟩
/-- What TakeXattrs answers. -/
def txA (X : List Int) (ref : Int) : Option (List (ByteArray × List Int)) :=
  match rdO X ref 1 with
  | none => none
  | some (b, nx) => if (g b 0).toNat ≠ 0 ∧ (xaR X (g b 0).toNat nx).length = (g b 0).toNat ∧ xsOk (xaR X (g b 0).toNat nx) = true then some (xaR X (g b 0).toNat nx) else none
def TakesX (X : List Int) (ref : Int) (w' : World) (r : Ending) : Prop :=
  (txA X ref = none ∧ r = .returned (.tuple #[.slice none 0 0, .int .i64 2])) ∨
  ∃ xs ao c, txA X ref = some xs ∧ r = .returned (.tuple #[.slice ao xs.length c, .int .i64 0]) ∧ XsR w' ao xs.length xs
end Tab
set_option maxRecDepth 100000 in
set_option maxHeartbeats 4000000 in
theorem TakeXattrs_any (p tb N : Nat) (O : Nat → Prop) (X : List Int) (ref : Int) (w : World) (h : RdM w p O tb ent X N) (hT : Tb w tb ent) (htb : tb < w.heap.size) (hOt : ¬ O tb) (hby : Bytes X) (hr : In64 ref) (hX : X.length ≤ 1000000) (hN : N ≤ 600000000) :
    Calls Try.prog 21 #[.pointer (some ⟨p, 0, none⟩), .int .i64 ref] w fun r w' => (∃ O', RM w p tb O X (N + 400000) O' w') ∧ TakesX X ref w' r := by
  have HR := hide (rm_read (RM.start h hT htb hOt) ref 1 1 rfl hby hr hX (by omega) (by omega))
  have hfr : Fence.wide.fn 48 := trivial
  have hfx : Fence.wide.fn 49 := trivial
  have hfm : Fence.wide.fn 16 := trivial
  clear h hT hOt
  refine (callsIn_wide (n := 12)).1 ?_
  refine callsIn_of_wp_marks Try.func21 rfl trivial ?_ rfl
  simp only [Try.ntmps21, List.size_toArray, List.length_cons, List.length_nil, Nat.reduceAdd, Nat.reduceSub, Array.replicate_succ, Array.replicate_zero, List.push_toArray, List.append_toArray, List.nil_append, List.cons_append]
  gi_wp2
  refine (callsIn_wide.2 HR.out).mono ?_
  rintro r w1 ⟨O1, hM1, hF1, hG1, ⟨hn, e, he, rfl⟩ | ⟨z, nx, ao, c, hs, rfl, hB, _⟩⟩
  · have he' : (e != 0) = true := by simpa using he
    have HA : Hid ((∃ O', RM w p tb O X (N + 400000) O' w1) ∧ TakesX X ref w1 (.returned (.tuple #[.slice none 0 0, .int .i64 2]))) := ⟨⟨O1, hM1.mono (by omega)⟩, .inl ⟨by unfold txA; rw [hn], rfl⟩⟩
    clear hM1 hF1 hG1 HR
    gi_wp2
    refine ⟨_, results_tmp2 rfl _ _ _, ?_⟩
    exact HA.out
  · obtain ⟨b, off, x, rfl, hx, hxb, hc⟩ := hB.first
    obtain ⟨a1, a2, a3, a4, a5⟩ := rdO_some hby hs
    have hnx : In64 nx := by
      rcases a5 with a5 | a5
      · omega
      · constructor <;> omega
    have HE : Hid (txA X ref = if x ≠ 0 ∧ (xaR X x nx).length = x ∧ xsOk (xaR X x nx) = true then some (xaR X x nx) else none) := by
      show _ = _
      unfold txA
      rw [hs]
      simp only [hx, Int.toNat_natCast]
    have hxw : (IntKind.i64.wrap (x : Int)) = (x : Int) := by rw [IntWalk.i64_in _ (by omega)]
    have HM1 := hide hM1
    have HF1 := hide hF1
    clear hM1 hF1 hG1 HR hs hB
    gi_wp2_with (gi_at_call 49; refine (xattrs_in _ _ _ _ _).mono ?_; rintro e w' ⟨rfl, rfl⟩)
    obtain ⟨W4, hW4⟩ : ∃ W4, W4 = (((w1.alloc (.cells #[.slice none 0 0] 28)).alloc (.cells #[.pointer (some ⟨p, 0, none⟩)] 41)).alloc (.cells #[.int .i64 nx] 3)).alloc (.cells #[.int .i64 x] 3) := ⟨_, rfl⟩
    have hs4 : W4.heap.size = w1.heap.size + 1 + 1 + 1 + 1 := by rw [hW4]; simp
    have b4 : Below w1.heap.size w1 W4 := by rw [hW4]; exact (((below_one _ _).alloc (by simp) _).alloc (by simp; omega) _).alloc (by simp; omega) _
    have k0 : W4.heap[w1.heap.size]? = some (.cells #[.slice none 0 0] 28 (0, 0)) := by
      rw [hW4]
      exact (((Go.Boxed.new w1 28 (.slice none 0 0)).alloc _).alloc _).alloc _
    have k1 : W4.heap[w1.heap.size + 1]? = some (.cells #[.pointer (some ⟨p, 0, none⟩)] 41 (0, 0)) := by
      rw [hW4]
      have := ((Go.Boxed.new (w1.alloc (.cells #[.slice none 0 0] 28)) 41 (.pointer (some ⟨p, 0, none⟩))).alloc (.cells #[.int .i64 nx] 3)).alloc (.cells #[.int .i64 x] 3)
      rw [World.size_alloc] at this
      exact this
    have k2 : W4.heap[w1.heap.size + 1 + 1]? = some (.cells #[.int .i64 nx] 3 (0, 0)) := by
      rw [hW4]
      have := (Go.Boxed.new ((w1.alloc (.cells #[.slice none 0 0] 28)).alloc (.cells #[.pointer (some ⟨p, 0, none⟩)] 41)) 3 (.int .i64 nx)).alloc (.cells #[.int .i64 x] 3)
      rw [World.size_alloc, World.size_alloc] at this
      exact this
    have k3 : W4.heap[w1.heap.size + 1 + 1 + 1]? = some (.cells #[.int .i64 x] 3 (0, 0)) := by
      rw [hW4]
      have := Go.Boxed.new (((w1.alloc (.cells #[.slice none 0 0] 28)).alloc (.cells #[.pointer (some ⟨p, 0, none⟩)] 41)).alloc (.cells #[.int .i64 nx] 3)) 3 (.int .i64 x)
      rw [World.size_alloc, World.size_alloc, World.size_alloc] at this
      exact this
    rw [← hW4]
    have HM4 := hide (HM1.out.below b4)
    have hw1 := HF1.out.size
    have holt := HM1.out.rdm.olt
    have HS4 := hide hs4
    clear hW4 b4 hc HM1 HF1 hs4
    refine wpIn_range_st rfl (by omega) (gf := 77) (lb := #[.pointer (some ⟨w1.heap.size + 1 + 1, 0, none⟩), .pointer (some ⟨w1.heap.size + 1 + 1 + 1, 0, none⟩), .pointer (some ⟨w1.heap.size + 1, 0, none⟩)]) rfl trivial (enters_of Try.func77 (by kernel_rfl) rfl) ?_
    intro rc bc hround
    obtain ⟨W6, hW6⟩ : ∃ W6, W6 = (W4.alloc (.deferred (some []))).alloc (.loop rc) := ⟨_, rfl⟩
    have b6 : Below W4.heap.size W4 W6 := by rw [hW6]; exact (below_one _ _).alloc (by simp) _
    have kD : W6.heap[W4.heap.size]? = some (.deferred (some [])) := by rw [hW6]; exact (Below.heap_alloc _ _ _ (by simp)).trans (World.alloc_heap_new W4 _)
    have kl : W6.heap[W4.heap.size + 1]? = some (.loop rc) := by rw [hW6]; have := World.alloc_heap_new (W4.alloc (.deferred (some []))) (.loop rc); rwa [World.size_alloc] at this
    have hno : ∀ k, w1.heap.size ≤ k → ¬ O1 k := fun k hk hx => by have := holt k hx; omega
    rw [← hW6]
    refine (xattrs1_in 11 (W4.heap.size + 1) (w1.heap.size + 1 + 1) (w1.heap.size + 1 + 1 + 1) (w1.heap.size + 1) p tb x (N + 255) (by omega) nx X O O1 w W6 (fun pre O W => TJ w w1.heap.size (W4.heap.size + 1) W4.heap.size (w1.heap.size + 1) p rc pre O W)
      (fun pre O O' A B h hf hg => h.step hf hg) ?_ (HM4.out.below b6) ?_ ?_ ((b6.block _ (heap_lt k1)).trans k1) (hno _ (by omega)) hby hX hnx (by omega) (by omega) ?_).mono ?_
    · intro pre O2 W nm va vn vc val hJ hsz hV v1 v2 v3 v4 hnew hlt hO
      refine (hround W #[.agg #[.string nm, .slice va vn vc]] (fun W' => Hid (TJ w w1.heap.size (W4.heap.size + 1) W4.heap.size (w1.heap.size + 1) p rc (pre ++ [(nm, val)]) O2 W' ∧ Fr (fun k => ¬ (O2 k ∨ k = tb ∨ k = w1.heap.size + 1) ∧ w.heap.size ≤ k) W W')) hJ.rl rfl ?_).mono (fun e W' hh => ⟨hh.1, hh.2.out⟩)
      clear hround
      obtain ⟨V, ao, cV, j1, j2, j3, j4, j5⟩ := hJ.ex
      have hVl : V.length ≤ 255 := by rw [j3] at hlt; simp at hlt; omega
      have hXn := tj_new j1 hnew
      have HR := hide (fun (Wa : World) ba w2 o2 b' c' hr hg hl => tj_round (bc := bc) hJ j1 j2 j3 j4 j5 ⟨nm, va, vn, vc, val⟩ ⟨hV, v1, v2, v3, hsz, fun a ha _ => v4 a ha⟩ hXn hO htb (Wa := Wa) (w2 := w2) (o2 := o2) (b' := b') (c' := c') ba hr hg hl)
      have hBll : w1.heap.size ≠ W4.heap.size + 1 := fun e => by have := hJ.rl; rw [← e, show W.heap[w1.heap.size]? = _ from j1] at this; cases this
      have hWl : W4.heap.size + 1 < W.heap.size := heap_lt hJ.rl
      have hwW : w.heap.size ≤ W.heap.size := by have := hJ.bw; have := j1.lt; omega
      obtain ⟨Wa, hWa⟩ : ∃ Wa, Wa = W.alloc (.cells #[.string nm, .slice va vn vc] 69) := ⟨_, rfl⟩
      have ba : Below W.heap.size W Wa := by rw [hWa]; exact below_one _ _
      have xa : Wa.heap[W.heap.size]? = some (.cells #[.string nm, .slice va vn vc] 69 (0, 0)) := by rw [hWa]; exact heap_new rfl
      have HWa := hide hWa
      have HBa := hide ba
      have la := (ba.block _ (heap_lt hJ.rl)).trans hJ.rl
      have HLa := hide la
      obtain ⟨Wb, hWb⟩ : ∃ Wb, Wb = Wa.putObj (W4.heap.size + 1) (.loop bc) := ⟨_, rfl⟩
      have xb : Wb.heap[W.heap.size]? = some (.cells #[.string nm, .slice va vn vc] 69 (0, 0)) := by rw [hWb]; exact (World.putObj_heap_other (by omega)).trans xa
      have jb : Go.Boxed Wb w1.heap.size 28 (.slice ao V.length cV) := by rw [hWb]; exact (World.putObj_heap_other hBll).trans ((ba.block _ j1.lt).trans j1)
      have hob : Wb.ownsRow w.heap.size 69 2 (.slice ao V.length cV) V.length (xvs V) := by
        rw [hWb]
        exact ownsRow_putObj (owns_fr j2 (Fr.of_below (S := fun _ => False) ba) (fun _ _ h => h)) _ la rfl
      have hbs : w.heap.size ≤ Wb.heap.size := by rw [hWb]; simp; have := ba.size; omega
      have HWb := hide hWb
      have y0 : Wb.cell? ⟨W.heap.size, 0, none⟩ = some (.string nm) := by simp [World.cell?, xb]
      have y1 : Wb.cell? ⟨W.heap.size, 1, none⟩ = some (.slice va vn vc) := by simp [World.cell?, xb]
      have yb := jb.cell
      have z0 : (Wb.alloc (.cells #[.string nm, .slice va vn vc] 69)).cell? ⟨Wb.heap.size, 0, none⟩ = some (.string nm) := by simp
      have z1 : (Wb.alloc (.cells #[.string nm, .slice va vn vc] 69)).cell? ⟨Wb.heap.size, 1, none⟩ = some (.slice va vn vc) := by simp
      have HOb := hide (hob.alloc (.cells #[.string nm, .slice va vn vc] 69))
      clear hJ hV hnew j1 j2 j3 j4 j5 hXn hob xb jb la xa ba hWa hWb
      gi_wp2
      rw [← HWa.out]
      refine ⟨HLa.out, ?_⟩
      rw [← HWb.out]
      gi_wp2_with (gi_at_builtin; refine wpListIn_append_xv _ rfl _ _ rfl w.heap.size ao cV V rfl HOb.out Wb.heap.size ⟨nm, va, vn, vc, val⟩ rfl z0 z1 (by omega) (by simp; omega) ?_; intro b' c' w2 hr hg hl; rw [HWb.out] at hg hl; obtain ⟨t1, t2, t3, t4⟩ := HR.out Wa HBa.out w2 _ b' c' hr hg hl; have d0 := t1.cell; have d1 := t1.frozen; have HT2 := hide t2; have HT3 := hide (And.intro t3 t4); clear t1 t2 t3 t4 hr hg hl)
      exact ⟨HT2.out, HT3⟩
    · have := (b6.block _ (heap_lt k2)).trans k2
      simp [World.cell?, this]
    · have := (b6.block _ (heap_lt k3)).trans k3
      simp [World.cell?, this]
    · have hs4 := HS4.out
      exact ⟨⟨[], none, 0, (b6.block _ (heap_lt k0)).trans k0, World.ownsRow_nil _ _ _ _, rfl, fun x hx => by simp at hx, fun k hk => by simp [Value.ownBlock] at hk⟩, hno _ (Nat.le_refl _), hw1, kl, hno _ (by omega), by omega, kD, hno _ (by omega), by omega, (b6.block _ (heap_lt k1)).trans k1, hno _ (by omega)⟩
    · clear hround kD kl k0 k1 k2 k3 b6 hW6 HM4
      rintro e W ⟨hv, O', hJ, hM⟩
      refine ⟨hv, hJ.rl, fun xc => ?_⟩
      obtain ⟨V, ao, cV, j1, j2, j3, j4, j5⟩ := hJ.ex
      have hBll : w1.heap.size ≠ W4.heap.size + 1 := fun e => by have := hJ.rl; rw [← e, show W.heap[w1.heap.size]? = _ from j1] at this; cases this
      have hDl : W4.heap.size ≠ W4.heap.size + 1 := by omega
      obtain ⟨hxs, hq1, hq2, hq3⟩ := xvs_row j2 (fun x hx => (j4 x hx).1)
      rw [← j3] at hxs
      have hlV : V.length = (xaR X x nx).length := by rw [j3]; simp
      have hlx := xaR_length X x nx
      rw [hlV] at hxs hq1 j1
      obtain ⟨xs, hxe⟩ : ∃ xs, xs = xaR X x nx := ⟨_, rfl⟩
      rw [← hxe] at hxs hq1 hlx HE j1
      obtain ⟨W7, hW7⟩ : ∃ W7, W7 = W.putObj (W4.heap.size + 1) (.loop xc) := ⟨_, rfl⟩
      have ck7 : CK W W7 := by rw [hW7]; exact CK.put _ hJ.rl rfl
      have cb : W7.cell? ⟨w1.heap.size, 0, none⟩ = some (.slice ao xs.length cV) := ck7.cell _ _ j1.cell
      have hX7 := ck7.xs hxs
      have hM7 : RM w p tb O X (N + 255 + 300000) O' W7 := by
        rw [hW7]
        exact hM.turn (fr_put W _ _) (fun k hk e => hJ.nl (by have : k = _ := e; rw [← this]; exact hk)) (fun e => by have : tb = _ := e; have := hJ.lw; omega) (fun k e => by have : k = _ := e; have := hJ.lw; omega)
      have hD7 : W7.heap[W4.heap.size]? = some (.deferred (some [])) := by rw [hW7]; exact (World.putObj_heap_other hDl).trans hJ.rd
      have hnD := hJ.nd
      have hDw := hJ.dw
      have HM7 := hide hM7
      have HX7 := hide hX7
      have HD7 := hide hD7
      have hDn : ¬ tb = W4.heap.size := by omega
      have HFin : Hid (∀ W8, Below W7.heap.size W7 W8 → W8.heap[W4.heap.size]? = some (.deferred (some [])) ∧ (∃ O', RM w p tb O X (N + 400000) O' (W8.putObj W4.heap.size (.deferred none))) ∧ XsR (W8.putObj W4.heap.size (.deferred none)) ao xs.length xs) := fun W8 b8 => by
        have d8 := (b8.block _ (heap_lt hD7)).trans hD7
        refine ⟨d8, ⟨O', ?_⟩, (CK.put _ d8 rfl).xs (hX7.below b8)⟩
        exact ((hM7.below b8).turn (fr_put W8 _ _) (fun k hk e => hnD (by have : k = _ := e; rw [← this]; exact hk)) (fun e => hDn e) (fun k e => by have : k = _ := e; omega)).mono (by omega)
      have HW7 := hide hW7
      clear hJ hM j1 j2 j3 j4 j5 hxs ck7 hX7 hM7 hD7 hW7 hlV hxe
      rw [← HW7.out]
      by_cases h0 : x = 0
      · have h0' : ((x : Int) == 0) = true := by simp; omega
        have HN : Hid (txA X ref = none) := by show _ = _; rw [HE.out, if_neg (by intro hh; exact hh.1 h0)]
        gi_wp2
        obtain ⟨q1, q2, q3⟩ := HFin.out W7 (Below.refl _ _)
        refine ⟨by simp, .inl ⟨_, _, rfl, run_takeDeferred q1, ?_⟩⟩
        refine ⟨_, results_tmp2 rfl _ _ _, ?_⟩
        exact ⟨q2, .inl ⟨HN.out, rfl⟩⟩
      · have h0' : ((x : Int) == 0) = false := by simp; omega
        by_cases hlt : xs.length < x
        · have hlt' : (xs.length : Int) < (x : Int) := by omega
          have HN : Hid (txA X ref = none) := by show _ = _; rw [HE.out, if_neg (by intro hh; omega)]
          gi_wp2
          obtain ⟨q1, q2, q3⟩ := HFin.out W7 (Below.refl _ _)
          refine ⟨by simp, .inl ⟨_, _, rfl, run_takeDeferred q1, ?_⟩⟩
          refine ⟨_, results_tmp2 rfl _ _ _, ?_⟩
          exact ⟨q2, .inl ⟨HN.out, rfl⟩⟩
        · have hlt' : ¬ (xs.length : Int) < (x : Int) := by omega
          cases hq : xsOk xs with
          | false =>
            have HN : Hid (txA X ref = none) := by show _ = _; rw [HE.out, if_neg (by rw [hq]; simp)]
            have HMy := hide (MayXattrs_any ao xs.length cV xs W7 HX7.out hq1 hq2 hq3 false hq)
            gi_wp2
            refine (callsIn_wide.2 HMy.out).mono ?_
            rintro r W8 ⟨rfl, b8⟩
            obtain ⟨q1, q2, q3⟩ := HFin.out W8 b8
            have Q1 := hide q1
            clear q1 b8
            gi_wp2
            refine ⟨by simp, .inl ⟨_, _, rfl, run_takeDeferred Q1.out, ?_⟩⟩
            refine ⟨_, results_tmp2 rfl _ _ _, ?_⟩
            exact ⟨q2, .inl ⟨HN.out, rfl⟩⟩
          | true =>
            have HN : Hid (txA X ref = some xs) := by show _ = _; rw [HE.out, if_pos ⟨h0, by omega, hq⟩]
            have HMy := hide (MayXattrs_any ao xs.length cV xs W7 HX7.out hq1 hq2 hq3 true hq)
            have hBl7 : w1.heap.size < W7.heap.size := World.block_lt_of_cell? W7 _ cb
            gi_wp2
            refine (callsIn_wide.2 HMy.out).mono ?_
            rintro r W8 ⟨rfl, b8⟩
            have cb8 : W8.cell? ⟨w1.heap.size, 0, none⟩ = some (.slice ao xs.length cV) := (b8.cell (p := ⟨w1.heap.size, 0, none⟩) hBl7).trans cb
            obtain ⟨q1, q2, q3⟩ := HFin.out W8 b8
            have Q1 := hide q1
            clear q1 b8
            gi_wp2
            refine ⟨by simp, .inl ⟨_, _, rfl, run_takeDeferred Q1.out, ?_⟩⟩
            refine ⟨_, results_tmp2 rfl _ _ _, ?_⟩
            exact ⟨q2, .inr ⟨xs, ao, cV, HN.out, rfl, q3⟩⟩
end Go.Proofs.Ytgkclldiphcogaa

/- Layer 11: numbers written, by the program and by the document's answer. -/
import Derived.Test.YtgkclldiphcogaaNums
import Derived.Test.YtgkclldiphcogaaCurNew
import Derived.Test.YtgkclldiphcogaaCurRefW
import Derived.BigQuiet
namespace Go.Proofs.Ytgkclldiphcogaa
set_option linter.unusedVariables false
open Go.RowKit Go.Maps
open Lz (g)
open Cur

namespace Tab
/-- A writer since w, of the call's own. -/
structure TW (w : World) (p : Nat) (s : St) (wX : World) : Prop where
  wr : ∃ v, WrP wX p w.heap.size v s
  bel : Below w.heap.size w wX
  up : w.heap.size ≤ p
structure TR (w : World) (p : Nat) (s : St) (wX : World) : Prop where
  wr : ∃ v, WrR wX p w.heap.size v s
  bel : Below w.heap.size w wX
  up : w.heap.size ≤ p
section
variable {w wX wY : World} {p : Nat} {s : St}
theorem TW.below (h : TW w p s wX) (hb : Below wX.heap.size wX wY) : TW w p s wY := by
  obtain ⟨v, hv⟩ := h.wr
  exact ⟨⟨v, hv.below hb⟩, h.bel.trans (hb.mono h.bel.size), h.up⟩
theorem TR.below (h : TR w p s wX) (hb : Below wX.heap.size wX wY) : TR w p s wY := by
  obtain ⟨v, hv⟩ := h.wr
  exact ⟨⟨v, hv.below hb⟩, h.bel.trans (hb.mono h.bel.size), h.up⟩
theorem TW.new (hw : Below w.heap.size w wX) : TW w wX.heap.size ([], 0) (wX.alloc (.cells #[.slice none 0 0, .int .i64 0] 82)) :=
  ⟨⟨_, WrP.new wX w.heap.size⟩, hw.trans ((below_one _ _).mono hw.size), hw.size⟩
theorem WrR.base' {w : World} {p B : Nat} {v : Value} {s : St} (h : WrR w p B v s) : ∀ k, v.ownBlock = some k → B ≤ k := by
  obtain ⟨ao, n, c, zs, rfl, _, ho, _⟩ := h
  exact fun k hk => (ho.lt k hk).1
theorem TR.new (hw : Below w.heap.size w wX) : TR w wX.heap.size ([], 0) (wX.alloc (.cells #[.slice none 0 0, .int .i64 0] 86)) :=
  ⟨⟨.slice none 0 0, none, 0, 0, [], rfl, heap_new rfl, ⟨rfl, .inl ⟨rfl, rfl⟩⟩, Bytes.nil, fun _ => rfl, .inl rfl⟩, hw.trans ((below_one _ _).mono hw.size), hw.size⟩
theorem TW.done {v : Value} {s' : St} (h : TW w p s wX) (hv : WrP wX p w.heap.size v s) (hd : WrDone wX wY p w.heap.size v s') : TW w p s' wY := by
  obtain ⟨v', h1, h2, _⟩ := hd
  exact ⟨⟨v', h1⟩, h.bel.trans (h2.two_below h.bel.size h.up hv.base), h.up⟩
theorem TR.done {v : Value} {s' : St} (h : TR w p s wX) (hv : WrR wX p w.heap.size v s) (hd : WrRDone wX wY p w.heap.size v s') : TR w p s' wY := by
  obtain ⟨v', h1, h2, _⟩ := hd
  exact ⟨⟨v', h1⟩, h.bel.trans (h2.two_below h.bel.size h.up (WrR.base' hv)), h.up⟩
end
/-- Blocks that hold no bytes stay, the writer's aside. -/
def KeptB (p : Nat) (wX w' : World) : Prop := ∀ b cs t, wX.heap[b]? = some (.cells cs t (0, 0)) → t ≠ 5 → b ≠ p → w'.heap[b]? = some (.cells cs t (0, 0))
theorem kept_row {wX w' : World} {p B n : Nat} {v : Value} {xs : List Value} (ho : wX.ownsRow B 5 1 v n xs) (hf : Fr (Two p v) wX w') : KeptB p wX w' := fun b cs t hb ht hp => by
  refine (hf.block b (heap_lt hb) (fun hx => ?_)).trans hb
  rcases hx with hx | hx
  · exact hp hx
  · obtain ⟨cur, hc⟩ := owns_obj ho hx
    rw [hb] at hc
    cases hc
    exact ht rfl
theorem WrP.kept {wX w' : World} {p B : Nat} {v : Value} {s : St} (h : WrP wX p B v s) (hf : Fr (Two p v) wX w') : KeptB p wX w' := by
  obtain ⟨ao, n, c, rfl, _, ho, _⟩ := h
  exact kept_row ho hf
theorem WrR.kept {wX w' : World} {p B : Nat} {v : Value} {s : St} (h : WrR wX p B v s) (hf : Fr (Two p v) wX w') : KeptB p wX w' := by
  obtain ⟨ao, n, c, zs, rfl, _, ho, _⟩ := h
  exact kept_row ho hf
theorem tw_num {w wX : World} {p : Nat} {s : St} (h : TW w p s wX) (x n : Int) (hs : s.1.length ≤ 10000000) (hx : In64 x) (hn : In64 n) :
    Calls Try.prog 32 #[.pointer (some ⟨p, 0, none⟩), .int .i64 x, .int .i64 n] wX fun r w' => r = .returned (.tuple #[]) ∧ TW w p (wNum x n s) w' := by
  obtain ⟨v, hv⟩ := h.wr
  refine (wNum_any p _ v x n s wX hv h.bel.size hs hx hn).mono ?_
  rintro r w' ⟨rfl, hd⟩
  exact ⟨rfl, h.done hv hd⟩
theorem tr_num {w wX : World} {p : Nat} {s : St} (h : TR w p s wX) (x n : Int) (hs : s.1.length ≤ 10000000) (hx : In64 x) (hn : In64 n) :
    Calls Try.prog 35 #[.pointer (some ⟨p, 0, none⟩), .int .i64 x, .int .i64 n] wX fun r w' => r = .returned (.tuple #[]) ∧ TR w p (wNum x n s) w' := by
  obtain ⟨v, hv⟩ := h.wr
  refine (refWNum_any p _ v x n s wX hv h.bel.size hs hx hn).mono ?_
  rintro r w' ⟨rfl, hd⟩
  exact ⟨rfl, h.done hv hd⟩
theorem tw_text {w wX : World} {p : Nat} {s : St} (h : TW w p s wX) (b : ByteArray) (hs : s.1.length ≤ 1000000) (hb : b.size ≤ 1000000) :
    Calls Try.prog 37 #[.pointer (some ⟨p, 0, none⟩), .string b] wX fun r w' => r = .returned (.tuple #[]) ∧ TW w p (wTxt (sb b) s) w' ∧ KeptB p wX w' := by
  obtain ⟨v, hv⟩ := h.wr
  refine (wText_any p _ v b s wX hv h.bel.size hs hb).mono ?_
  rintro r w' ⟨rfl, hd⟩
  obtain ⟨v', h1, h2, h3⟩ := hd
  exact ⟨rfl, h.done hv ⟨v', h1, h2, h3⟩, WrP.kept hv h2⟩
theorem tr_text {w wX : World} {p : Nat} {s : St} (h : TR w p s wX) (b : ByteArray) (hs : s.1.length ≤ 1000000) (hb : b.size ≤ 1000000) :
    Calls Try.prog 39 #[.pointer (some ⟨p, 0, none⟩), .string b] wX fun r w' => r = .returned (.tuple #[]) ∧ TR w p (wTxt (sb b) s) w' ∧ KeptB p wX w' := by
  obtain ⟨v, hv⟩ := h.wr
  refine (refWText_any p _ v b s wX hv h.bel.size hs hb).mono ?_
  rintro r w' ⟨rfl, hd⟩
  obtain ⟨v', h1, h2, h3⟩ := hd
  exact ⟨rfl, h.done hv ⟨v', h1, h2, h3⟩, WrR.kept hv h2⟩
theorem tw_done {w wX : World} {p : Nat} {s : St} (h : TW w p s wX) (hs : s.1.length ≤ 10000000) :
    Calls Try.prog 33 #[.pointer (some ⟨p, 0, none⟩)] wX fun r w' => ∃ ao c, r = .returned (.slice ao s.1.length c) ∧ New w w' ao s.1.length c s.1 ∧ TW w p s w' := by
  obtain ⟨v, hv⟩ := h.wr
  refine (DoneNew_any p _ v s wX hv (by omega)).mono ?_
  rintro r w' ⟨ao, c, rfl, hN⟩
  exact ⟨ao, c, rfl, hN.from h.bel, h.below hN.bel⟩
theorem tw_err {w wX : World} {p : Nat} {s : St} (h : TW w p s wX) :
    Calls Try.prog 34 #[.pointer (some ⟨p, 0, none⟩)] wX fun r w' => r = .returned (.int .i64 s.2) ∧ w' = wX := by
  obtain ⟨v, ao, n, c, _, hd, _⟩ := h.wr
  exact Err_any _ p n c ao s.2 wX hd
/-- Numbers written one behind the other. -/
def pn (wide : Int) (l : List Int) : St := l.foldl (fun s x => wNum x wide s) ([], 0)
theorem pn_snoc (wide : Int) (l : List Int) (x : Int) : pn wide (l ++ [x]) = wNum x wide (pn wide l) := by simp [pn]
theorem pn_take (wide : Int) (l : List Int) (i : Nat) (h : i < l.length) : pn wide (l.take (i + 1)) = wNum (g l i) wide (pn wide (l.take i)) := by
  rw [List.take_succ_eq_append_getElem h, pn_snoc, g_get l i h]
theorem pn_fold_length (wide : Int) : ∀ (l : List Int) (s : St), (l.foldl (fun s x => wNum x wide s) s).1.length ≤ s.1.length + 4 * l.length
  | [], s => by simp
  | x :: r, s => by
    have := pn_fold_length wide r (wNum x wide s)
    have := wNum_length x wide s
    simp only [List.foldl_cons, List.length_cons]
    omega
theorem pn_length (wide : Int) (l : List Int) : (pn wide l).1.length ≤ 4 * l.length := by
  have := pn_fold_length wide l ([], 0)
  simpa [pn] using this
theorem can_num {s : St} (h : s.2 = 0 ∨ s.1 = []) (x n : Int) : (wNum x n s).2 = 0 ∨ (wNum x n s).1 = [] := by
  unfold wNum wByt fl
  split <;> split <;> simp_all
theorem can_fold (wide : Int) : ∀ (l : List Int) (s : St), (s.2 = 0 ∨ s.1 = []) → (l.foldl (fun s x => wNum x wide s) s).2 = 0 ∨ (l.foldl (fun s x => wNum x wide s) s).1 = []
  | [], s, h => h
  | x :: r, s, h => can_fold wide r _ (can_num h x wide)
theorem pn_can (wide : Int) (l : List Int) : (pn wide l).2 = 0 ∨ (pn wide l).1 = [] := can_fold wide l _ (.inl rfl)
/-- What PutNums answers. -/
def putN (wide : Int) (l : List Int) : St := if wide = 2 ∨ wide = 4 then pn wide l else ([], 1)
end Tab
open Tab
theorem isWide_any (x : Int) (w : World) (q : Bool) (hq : decide (x = 2 ∨ x = 4) = q) :
    Calls Try.prog 31 #[.int .i64 x] w fun e w' => e = .returned (.bool q) ∧ w' = w := by
  by_cases h2 : x = 2
  · have e2 : (x == 2) = true := by simpa using h2
    go_enter Try.func31, Try.ntmps31
    go_wp2
    go_ret
    exact ⟨ret_bool (by rw [← hq]; simp [h2]), rfl⟩
  · have e2 : (x == 2) = false := by simpa using h2
    go_enter Try.func31, Try.ntmps31
    go_wp2
    go_ret
    exact ⟨ret_bool (by rw [← hq, Bool.eq_iff_iff]; simp [h2]), rfl⟩
/-- What a put of bytes answers. -/
def PutsA (A : St) (w : World) (r : Ending) (w' : World) : Prop := ∃ ao c, r = .returned (.tuple #[.slice ao A.1.length c, .int .i64 A.2]) ∧ New w w' ao A.1.length c A.1
def RPutsA (A : St) (w : World) (r : Ending) (w' : World) : Prop := ∃ ao c, r = .returned (.tuple #[.slice ao A.1.length c, .int .i64 A.2]) ∧ Bs w' ao A.1.length A.1 ∧ Below w.heap.size w w'
set_option maxRecDepth 100000 in
set_option maxHeartbeats 1000000 in
theorem PutNums_any (a : Option Addr) (n c : Nat) (l : List Int) (wide : Int) (w : World) (h : Zs w a n l) (hn : n ≤ 10000) (hl : ∀ x ∈ l, In64 x) (hw : In64 wide) :
    Calls Try.prog 12 #[.slice a n c, .int .i64 wide] w fun r w' => PutsA (putN wide l) w r w' := by
  have hlen := h.1
  have HZ := hide h
  clear h
  by_cases hq : wide = 2 ∨ wide = 4
  · have e : putN wide l = pn wide l := by unfold putN; rw [if_pos hq]
    rw [e]
    obtain ⟨w1, hw1⟩ : ∃ w1, w1 = w.alloc (.cells #[.slice none 0 0, .int .i64 0] 82) := ⟨_, rfl⟩
    have HT0 : Hid (TW w w.heap.size ([], 0) w1) := by rw [hw1]; exact TW.new (Below.refl _ _)
    have HW1 := hide hw1
    clear hw1 e
    go_enter Try.func12, Try.ntmps12
    go_wp2_with fail
    refine (isWide_any wide w true (decide_eq_true hq)).mono ?_
    rintro r wx ⟨rfl, hwx⟩
    obtain rfl := hwx.symm
    go_wp2_with fail
    rw [← HW1.out]
    go_loopw [14] (fun r wr => ∃ i : Nat, r = .int .i64 i ∧ i ≤ n ∧ TW w w.heap.size (pn wide (l.take i)) wr) (fun r _ => n - (intOf r).toNat)
    case atStart => exact ⟨0, rfl, Nat.zero_le _, HT0.out⟩
    case round =>
      clear HT0 HW1
      obtain ⟨i, rfl, hi, hT⟩ := hrel
      have HT := hide hT
      have hpl := pn_length wide (l.take i)
      have hpl2 : (l.take i).length ≤ 10000 := by simp; omega
      clear hT
      by_cases hp : i < n
      · obtain ⟨b, off, rfl, hb, hc⟩ := (HZ.out.below HT.out.bel).at (by omega)
        have ci := hc i hp
        have hd : (i : Int) < (n : Int) := by omega
        have hgx := hl (g l i) (by rw [g_get l i (by omega)]; exact List.getElem_mem _)
        have HS := hide (pn_take wide l i (by omega))
        clear hc
        go_wp2_with fail
        refine (tw_num HT.out (g l i) wide (by omega) hgx hw).mono ?_
        rintro r w2 ⟨rfl, hT2⟩
        rw [← HS.out] at hT2
        have HT2 := hide hT2
        clear hT2 HT
        go_wp2_with fail
        go_roundw
        case rel => exact ⟨i + 1, rfl, by omega, HT2.out⟩
        case measure => simp [intOf]; omega
      · obtain rfl : i = n := by omega
        rw [List.take_of_length_le (by omega)] at HT hpl
        go_wp2_with fail
        refine (tw_done HT.out (by omega)).mono ?_
        rintro r w2 ⟨ao, c', rfl, hN, hT2⟩
        have HN := hide hN
        clear hN
        go_wp2_with fail
        refine (tw_err hT2).mono ?_
        rintro r w3 ⟨rfl, hw3⟩
        obtain rfl := hw3.symm
        go_wp2
        go_ret2
        exact ⟨ao, c', rfl, HN.out⟩
  · have e : putN wide l = ([], 1) := by unfold putN; rw [if_neg hq]
    rw [e]
    clear e
    go_enter Try.func12, Try.ntmps12
    go_wp2_with fail
    refine (isWide_any wide w false (decide_eq_false hq)).mono ?_
    rintro r wx ⟨rfl, hwx⟩
    obtain rfl := hwx.symm
    go_wp2_with fail
    go_ret2
    exact ⟨none, 0, rfl, New.none _⟩
set_option maxRecDepth 100000 in
set_option maxHeartbeats 1000000 in
theorem refPutNums_any (a : Option Addr) (n c : Nat) (l : List Int) (wide : Int) (w : World) (h : Zs w a n l) (hn : n ≤ 10000) (hl : ∀ x ∈ l, In64 x) (hw : In64 wide) :
    Calls Try.prog 13 #[.slice a n c, .int .i64 wide] w fun r w' => RPutsA (putN wide l) w r w' := by
  have hlen := h.1
  have HZ := hide h
  clear h
  by_cases hq : wide = 2 ∨ wide = 4
  · have e : putN wide l = pn wide l := by unfold putN; rw [if_pos hq]
    rw [e]
    obtain ⟨w1, hw1⟩ : ∃ w1, w1 = w.alloc (.cells #[.slice none 0 0, .int .i64 0] 86) := ⟨_, rfl⟩
    have HT0 : Hid (TR w w.heap.size ([], 0) w1) := by rw [hw1]; exact TR.new (Below.refl _ _)
    have HW1 := hide hw1
    clear hw1 e
    have hg : (wide != 2) = false ∨ ((wide != 2) = true ∧ (wide != 4) = false) := by
      rcases hq with h | h
      · left; simp [h]
      · right; simp [h]
    obtain ⟨P, hP⟩ : ∃ P, P = pn wide l := ⟨_, rfl⟩
    have HP := hide hP
    have HPC : Hid (P.2 = 0 ∨ P.1 = []) := by rw [hP]; exact pn_can wide l
    have hPl : P.1.length ≤ 40000 := by rw [hP]; have := pn_length wide l; omega
    rw [← hP]
    clear hP
    rcases hg with g1 | ⟨g1, g2⟩
    all_goals
      go_enter Try.func13, Try.ntmps13
      go_wp2_with fail
      rw [← HW1.out]
      go_loopw [7] (fun r wr => ∃ i : Nat, r = .int .i64 i ∧ i ≤ n ∧ TR w w.heap.size (pn wide (l.take i)) wr) (fun r _ => n - (intOf r).toNat)
      case atStart => exact ⟨0, rfl, Nat.zero_le _, HT0.out⟩
      case round =>
        clear HT0 HW1
        obtain ⟨i, rfl, hi, hT⟩ := hrel
        have HT := hide hT
        have hpl := pn_length wide (l.take i)
        have hpl2 : (l.take i).length ≤ 10000 := by simp; omega
        by_cases hp : i < n
        · obtain ⟨b, off, rfl, hb, hc⟩ := (HZ.out.below HT.out.bel).at (by omega)
          have ci := hc i hp
          have hd : (i : Int) < (n : Int) := by omega
          have hgx := hl (g l i) (by rw [g_get l i (by omega)]; exact List.getElem_mem _)
          clear hc hT
          go_wp2_with fail
          refine (tr_num HT.out (g l i) wide (by omega) hgx hw).mono ?_
          rintro r w2 ⟨rfl, hT2⟩
          rw [← pn_take wide l i (by omega)] at hT2
          have HT2 := hide hT2
          clear hT2 HT
          go_wp2_with fail
          go_roundw
          case rel => exact ⟨i + 1, rfl, by omega, HT2.out⟩
          case measure => simp [intOf]; omega
        · obtain rfl : i = n := by omega
          rw [List.take_of_length_le (by omega), ← HP.out] at hT
          obtain ⟨v, hv⟩ := hT.wr
          have HV := hide hv
          have HBl := hide hT.bel
          obtain ⟨ao, m, c1, zs, _, hd, _⟩ := hv
          have hd1 := hd.c1
          have hlt := hd.lt
          clear hd hT HT
          by_cases he : P.2 = 0
          · rw [he] at hd1
            go_wp2_with fail
            refine (refDone_any _ _ _ _ _ HV.out (by omega)).mono ?_
            rintro r w2 ⟨ao2, c2, rfl, hB, _, _, _, hb⟩
            have HX : Hid (RPutsA P w (.returned (.tuple #[.slice ao2 P.1.length c2, .int .i64 0])) w2) := ⟨ao2, c2, by rw [he], hB, HBl.out.trans (hb.mono HBl.out.size)⟩
            clear hB hb
            go_wp2
            go_ret2
            exact HX.out
          · have he2 : (P.2 != 0) = true := by simpa using he
            have HX : Hid (∀ q, RPutsA P w (.returned (.tuple #[.slice none 0 0, .int .i64 P.2])) (wr.drewN q)) := fun q => by
              have h0 : P.1 = [] := by
                rcases HPC.out with h | h
                · exact absurd h he
                · exact h
              refine ⟨none, 0, by rw [h0]; rfl, by rw [h0]; exact (New.none _).bs, below_drewN HBl.out q⟩
            go_wp2_with fail
            go_quiet (fail)
            go_wp2
            go_ret2
            exact HX.out _
  · have e : putN wide l = ([], 1) := by unfold putN; rw [if_neg hq]
    rw [e]
    have e1 : (wide != 2) = true := by simp; intro h; exact hq (.inl h)
    have e2 : (wide != 4) = true := by simp; intro h; exact hq (.inr h)
    clear e
    go_enter Try.func13, Try.ntmps13
    go_wp2_with fail
    go_ret2
    exact ⟨none, 0, rfl, (New.none _).bs, Below.refl _ _⟩
end Go.Proofs.Ytgkclldiphcogaa

/- Layer 6: parts: what stands between the slashes of a path. -/
import Derived.Test.YtlaeplfbkpjpgaaNamLeaf
namespace Go.Proofs.Ytlaeplfbkpjpgaa
set_option linter.unusedVariables false
open Go.RowKit Go.Maps
open Nam

theorem grown_iterAt (w : World) (k : Nat) (s : ByteArray) (pos : Nat) : w.grownBy (w.iterAt k s pos) (some k) :=
  ⟨rfl, rfl, rfl, by rw [Lib.iterAt_size]; exact Nat.le_refl _, fun i _ hi => Lib.iterAt_other w k i s pos (fun e => hi (by rw [e]))⟩
theorem cell_one_str (w : World) (t : ByteArray) : (w.alloc (.cells #[.string t] 9)).cell? ⟨w.heap.size, 0, none⟩ = some (.string t) := by
  rw [cell_of_row _ w.heap.size 0 _ _ _ (heap_alloc_new w _)]; rfl
/-- A letter that is a slash stands alone. -/
theorem letter_slash {s : ByteArray} {pos : Nat} (h : pos < s.size) (hb : ((Utf8.decode s pos).1 : Int) = 47) : s.toList.drop pos = 47 :: s.toList.drop (pos + 1) ∧ (Utf8.decode s pos).2 = 1 := by
  obtain ⟨c, hc, hl, h1, h2, h3⟩ := letter s pos h
  rcases h3 with ⟨b, rfl, e⟩ | ⟨e, _⟩
  · have : b = 47 := UInt8.toNat_inj.1 (by have : (b.toNat : Int) = 47 := by rw [← e]; exact hb
                                           simpa using (by omega : b.toNat = 47))
    subst this
    have h4 : (Utf8.decode s pos).2 = 1 := by simpa using hl.symm
    rw [h4] at hc
    exact ⟨hc, h4⟩
  · omega
theorem letter_other {s : ByteArray} {pos : Nat} (h : pos < s.size) (hb : ((Utf8.decode s pos).1 : Int) ≠ 47) (pre : List UInt8) :
    pc pre (s.toList.drop pos) = pc (pre ++ (s.toList.drop pos).take (Utf8.decode s pos).2) (s.toList.drop (pos + (Utf8.decode s pos).2)) := by
  obtain ⟨c, hc, hl, h1, h2, h3⟩ := letter s pos h
  have e : (s.toList.drop pos).take (Utf8.decode s pos).2 = c := by rw [hc, List.take_append_of_le_length (by omega), List.take_of_length_le (by omega)]
  rw [e]
  conv => lhs; rw [hc]
  refine pc_chunk c pre _ (fun b hbc => ?_)
  rcases h3 with ⟨b', rfl, e'⟩ | ⟨_, hh⟩
  · simp only [List.mem_singleton] at hbc
    subst hbc
    intro k
    subst k
    exact hb e'
  · intro k
    have := hh b hbc
    rw [k] at this
    simp at this
theorem cut_more (l : List UInt8) (a p d : Nat) (h : a ≤ p) : (l.take p).drop a ++ (l.drop p).take d = (l.take (p + d)).drop a := by
  rw [List.take_add]
  by_cases k : a ≤ l.length
  · rw [List.drop_append_of_le_length (by rw [List.length_take]; omega)]
  · have e1 : (l.take p).drop a = [] := List.drop_eq_nil_of_le (by rw [List.length_take]; omega)
    have e2 : l.drop p = [] := List.drop_eq_nil_of_le (by omega)
    rw [e1, e2, List.take_nil, List.append_nil, List.append_nil, e1]
theorem pc_go {l : List UInt8} {a p d : Nat} (h : a ≤ p) (hp : pc ((l.take p).drop a) (l.drop p) = pc ((l.take p).drop a ++ (l.drop p).take d) (l.drop (p + d))) : pc ((l.take p).drop a) (l.drop p) = pc ((l.take (p + d)).drop a) (l.drop (p + d)) := by
  rw [hp, cut_more l a p d h]
theorem iterPos_of {w : World} {k pos : Nat} {s : ByteArray} (h : w.heap[k]? = some (.stringIter s pos)) : w.iterPos k = pos := by simp [World.iterPos, h]
set_option maxRecDepth 100000 in
theorem parts_any (p : ByteArray) (w : World) (hs : p.size ≤ 1000) : Calls Try.prog 26 #[.string p] w fun e w' => ∃ ao n c S, e = .returned (.slice ao n c) ∧ Rs w' ao n S ∧ nm S = parts p.toList ∧ n ≤ 1001 ∧ 0 < n ∧ Below w.heap.size w w' := by
  go_enter Try.func26, Try.ntmps26
  go_wp2
  go_loopw [3, 4, 5, 6] (fun r f _ _ wr => ∃ (ao : Option Addr) (n c a pos : Nat) (S : List ByteArray), r = .slice ao n c ∧ f = .int .i64 a ∧ wr.ownsRow w.heap.size 9 1 (.slice ao n c) n (sv S) ∧ wr.heap[w.heap.size]? = some (.stringIter p pos) ∧ Below w.heap.size w wr ∧ a ≤ pos ∧ pos ≤ p.size ∧ n ≤ pos ∧
    nm S ++ pc ((p.toList.take pos).drop a) (p.toList.drop pos) = parts p.toList) (fun _ _ _ _ wr => p.size - wr.iterPos w.heap.size)
  case atStart => exact ⟨none, 0, 0, 0, 0, [], rfl, rfl, World.ownsRow_nil _ _ _ _, World.iter_heap w p 0, (Below.refl _ _).alloc (Nat.le_refl _) _, Nat.le_refl _, Nat.zero_le _, Nat.le_refl _, by simp [nm, pc_nil]⟩
  case round =>
    obtain ⟨ao, n, c, a, pos, S, rfl, rfl, hown, hit, hbel, ha, hpos, hnp, hinv⟩ := hrel
    have HI := hide hinv
    have HB := hide hbel
    have HO := hide hown
    have hk := heap_lt hit
    have hne := owns_ne hown hit (fun _ _ e => by cases e)
    have HN := hide hne
    have HT := hide hit
    have HM := hide (iterPos_of hit)
    clear hinv hbel hown hne
    by_cases hp : pos < p.size
    · have hnx : ∀ ty, (Instr.next (.pointer (some ⟨w.heap.size, 0, none⟩)) true ty).run Try.prog wr = _ := fun ty => Lib.run_next_any_at wr w.heap.size p pos ty hit hp
      have hwd := width_pos p pos hp
      have hle := (decode_pass p pos hp).1
      have hsl := letter_slash hp
      have hot := letter_other hp
      obtain ⟨dc, hdc⟩ : ∃ dc, Utf8.decode p pos = dc := ⟨_, rfl⟩
      simp only [hdc] at hnx hwd hle hsl hot
      have HS := hide hsl
      have HO2 := hide hot
      have hit2 := Lib.iterAt_heap wr w.heap.size p pos (pos + dc.2) hit
      have HT2 := hide hit2
      have HM2 := hide (iterPos_of hit2)
      have hown2 := HO.out.kept (grown_iterAt wr w.heap.size p (pos + dc.2)) (.inr (fun e => HN.out e.symm))
      have HB2 := hide (Lib.below_iterAt HB.out (Nat.le_refl _) p (pos + dc.2))
      have hsz2 := Lib.iterAt_size wr w.heap.size p (pos + dc.2)
      clear hdc hsl hot hit hit2
      by_cases he : ((dc.1 : Int) == 47) = true
      · have hsz3 : w.heap.size < (wr.iterAt w.heap.size p (pos + dc.2)).heap.size := by rw [hsz2]; exact hk
        have HZ := hide hsz2
        clear hsz2
        generalize wr.iterAt w.heap.size p (pos + dc.2) = wi at *
        go_wp2_with (at_builtin; refine wpList_append_str _ rfl _ _ rfl w.heap.size ao n c S rfl (hown2.alloc _) wi.heap.size (p.extract a pos) rfl ?c1 (by omega) ?c2 ?_)
        case c1 => exact cell_one_str _ _
        case c2 => simp; omega
        intro ao' c' w' hown' hgrow
        have hg := grown_alloc hgrow
        have HG := hide hg
        have HO' := hide hown'
        have HL := hide (hown2.lt)
        clear hown2 hown' hg hgrow
        go_wp2
        have E := HS.out (by simpa using he)
        go_roundw
        case rel =>
          have ht := (HG.out.block _ hsz3 HN.out).trans HT2.out
          refine ⟨ao', n + 1, c', pos + 1, pos + dc.2, S ++ [p.extract a pos], rfl, by go_num, HO'.out, ht, HB2.out.trans ((Below.refl _ _).grown HG.out (by omega) (fun k hk => (HL.out k hk).1)), by omega, hle, by omega, ?_⟩
          rw [nm_append, List.append_assoc, ← HI.out, E.1, E.2, pc_slash]
          congr 1
          have e1 : nm [p.extract a pos] = [(p.toList.take pos).drop a] := by simp [nm, toList_extract]
          have e2 : (p.toList.take (pos + 1)).drop (pos + 1) = [] := List.drop_eq_nil_of_le (by rw [List.length_take]; omega)
          rw [e1, e2, pc_nil]
          rfl
        case measure =>
          have ht := (HG.out.block _ hsz3 HN.out).trans HT2.out
          rw [iterPos_of ht, HM.out]; omega
      · have he' : ((dc.1 : Int) == 47) = false := by simpa using he
        clear he hsz2
        generalize wr.iterAt w.heap.size p (pos + dc.2) = wi at *
        have HO' := hide hown2
        clear hown2
        go_wp2
        go_roundw
        case rel =>
          refine ⟨ao, n, c, a, pos + dc.2, S, rfl, rfl, HO'.out, HT2.out, HB2.out, by omega, hle, by omega, ?_⟩
          rw [← HI.out, pc_go ha (HO2.out (by simpa using he') _)]
        case measure =>
          rw [HM2.out, HM.out]; omega
    · have hnx : ∀ ty, (Instr.next (.pointer (some ⟨w.heap.size, 0, none⟩)) true ty).run Try.prog wr = _ := fun ty => Lib.run_next_end_at wr w.heap.size p pos ty hit hp
      have hown2 := HO.out
      have hpe : pos = p.size := by omega
      have HE := hide hpe
      clear hpe hit
      go_wp2_with (at_builtin; refine wpList_append_str _ rfl _ _ rfl w.heap.size ao n c S rfl (hown2.alloc _) wr.heap.size (p.extract a p.size) rfl ?c1 (by omega) ?c2 ?_)
      case c1 => exact cell_one_str _ _
      case c2 => simp; omega
      intro ao' c' w' hown' hgrow
      have hg := grown_alloc hgrow
      have HG := hide hg
      have HO' := hide hown'
      have HL := hide (hown2.lt)
      clear hown2 hown' hg hgrow
      go_wp2
      go_ret
      refine ⟨ao', n + 1, c', S ++ [p.extract a p.size], rfl, rs_of_owns HO'.out, ?_, by omega, by omega, HB.out.trans ((Below.refl _ _).grown HG.out (by omega) (fun k hk => (HL.out k hk).1))⟩
      have e1 : p.toList.drop p.size = [] := drop_end (Nat.lt_irrefl _)
      rw [nm_append, ← HI.out, HE.out, e1, pc_end]
      simp [nm, toList_extract]
end Go.Proofs.Ytlaeplfbkpjpgaa

/- Layer 6: Join, and the reference's. -/
import Derived.Test.YtgkclldiphcogaaNamBuild
namespace Go.Proofs.Ytgkclldiphcogaa
set_option linter.unusedVariables false
open Go.RowKit Go.Maps
open Nam

theorem toList_append (a b : ByteArray) : (a ++ b).toList = a.toList ++ b.toList := by
  rw [ByteArray.toList_eq, ByteArray.toList_eq, ByteArray.toList_eq, ByteArray.data_append, Array.toList_append]
/-- The path's bytes of some names. -/
def jn (l : List ByteArray) : List UInt8 := (nm l).flatMap (fun n => 47 :: n)
theorem jn_append (l m : List ByteArray) : jn (l ++ m) = jn l ++ jn m := by rw [jn, nm_append, List.flatMap_append]; rfl
theorem jn_snoc (l : List ByteArray) (i : Nat) (h : i < l.length) : jn (l.take (i + 1)) = (jn (l.take i) ++ [47]) ++ (gs l i).toList := by
  rw [List.take_succ_eq_append_getElem h, gs_lt l i h, jn_append, List.append_assoc]
  simp [jn, nm]
theorem jn_len (l : List ByteArray) (i : Nat) : (jn (l.take i)).length ≤ (jn l).length := by
  have : jn l = jn (l.take i) ++ jn (l.drop i) := by
    rw [← jn_append, List.take_append_drop]
  rw [this, List.length_append]; omega
theorem jn_ne (l : List ByteArray) (h : l ≠ []) : jn l ≠ [] := by
  obtain ⟨x, y, rfl⟩ := List.exists_cons_of_ne_nil h
  simp [jn, nm]
theorem join_jn (l : List ByteArray) (h : l ≠ []) : join (nm l) = jn l := by
  unfold join jn
  rw [if_neg (fun e => h (by simpa [nm] using e))]
/-- A builder that is new. -/
theorem bu_new (w : World) : Bu (w.alloc (.cells #[.pointer none, .slice none 0 0] 169)) w.heap.size w.heap.size [] :=
  .inl ⟨Nat.le_refl _, .slice none 0 0, heap_alloc_new w _, World.ownsRow_nil _ _ _ _, by simp [Value.ownBlock]⟩
theorem WriteSlash (B b : Nat) (l : List UInt8) (w : World) (h : Bu w B b l) (hlen : l.length ≤ 1000000000) (hB : B ≤ w.heap.size) :
    Calls Try.prog 108 #[.pointer (some ⟨b, 0, none⟩), .int .u8 47] w fun e w' => e = .returned .nilIface ∧ Bu w' B b (l ++ [47]) ∧ Below B w w' := WriteByte_any B b l 47 w h hlen hB
set_option maxRecDepth 100000 in
theorem Join_any (a : Option Addr) (n c : Nat) (l : List ByteArray) (w : World) (hl : Rs w a n l) (hn : n ≤ 1000000) (hs : (jn l).length ≤ 1000000000) :
    Calls Try.prog 85 #[.slice a n c] w fun e w' => e = .returned (.string ⟨(join (nm l)).toArray⟩) ∧ Below w.heap.size w w' := by
  have HLN := hide hl.1
  by_cases h0 : n = 0
  · have e : l = [] := List.eq_nil_of_length_eq_zero (by rw [HLN.out, h0])
    subst e
    subst h0
    clear hl hs
    go_enter Try.func85, Try.ntmps85
    go_wp2
    go_ret
    exact ⟨rfl, Below.refl _ _⟩
  · obtain ⟨ba, oa, rfl, hba, hca⟩ := hl.at (by omega)
    have HC := hide hca
    have hne : Hid (l ≠ []) := fun e => h0 (by rw [← HLN.out, e]; rfl)
    have h1 : ((n : Int) == 0) = false := beq_eq_false_iff_ne.2 (by omega)
    have HS := hide hs
    clear hl hca hs
    go_enter Try.func85, Try.ntmps85
    go_wp2
    go_loopw [5, 11] (fun _ r wr => ∃ i : Nat, r = .int .i64 i ∧ i ≤ n ∧ Bu wr w.heap.size w.heap.size (jn (l.take i)) ∧ Below w.heap.size w wr ∧ w.heap.size < wr.heap.size) (fun _ r _ => n - (intOf r).toNat)
    case atStart => exact ⟨0, rfl, Nat.zero_le _, bu_new w, (Below.refl _ _).alloc (Nat.le_refl _) _, by simp⟩
    case round =>
      obtain ⟨i, rfl, hi0, hbu, hbel, hsz⟩ := hrel
      have HB := hide hbu
      have HE := hide hbel
      by_cases hp : i < n
      · have hd : decide ((i : Int) < n) = true := by simpa using hp
        have c1 : wr.cell? ⟨ba, oa + i, none⟩ = some (.string (gs l i)) := (hbel.cell (by exact hba)).trans (HC.out i hp)
        have hj := jn_snoc l i (by rw [HLN.out]; exact hp)
        have hjl := jn_len l (i + 1)
        have HJ := hide hj
        have hq : (jn (l.take i)).length + 1 + (gs l i).size ≤ 1000000000 := by
          rw [hj, List.length_append, List.length_append, toList_length] at hjl
          have := HS.out
          simp only [List.length_cons, List.length_nil] at hjl
          omega
        have hq2 : Hid ((jn (l.take i) ++ [47]).length + (gs l i).size ≤ 1000000000) := by
          show _ ≤ _
          simp only [List.length_append, List.length_cons, List.length_nil]; omega
        clear hbu hbel hj hjl
        go_wp2_with (go_at_call 108; refine (WriteSlash w.heap.size w.heap.size (jn (l.take i)) wr HB.out (by omega) (by omega)).mono ?_; rintro e w1 ⟨rfl, hb1, he1⟩)
        have hs1 := he1.size
        have H1 := hide hb1
        have E1 := hide he1
        clear hb1 he1
        go_wp2_with (go_at_call 109; refine (WriteString_any w.heap.size w.heap.size (jn (l.take i) ++ [47]) (gs l i) w1 H1.out hq2.out (by omega)).mono ?_; rintro e w2 ⟨rfl, hb2, he2⟩)
        have hs2 := he2.size
        have H2 := hide hb2
        have E2 := hide he2
        clear hb2 he2
        go_wp2
        go_roundw
        case rel =>
          refine ⟨i + 1, by go_num, by omega, ?_, (HE.out.trans E1.out).trans E2.out, by omega⟩
          rw [HJ.out]; exact H2.out
        case measure => simp [intOf]; omega
      · have hd : decide ((i : Int) < n) = false := by simpa using hp
        have e : l.take i = l := List.take_of_length_le (by rw [HLN.out]; omega)
        rw [e] at hbu
        have HB' := hide hbu
        have HF := hide (join_jn l hne.out)
        have hjn := jn_ne l hne.out
        clear hbu hbel e HB
        go_wp2_with (go_at_call 110; refine (String_any w.heap.size w.heap.size (jn l) wr HB'.out hjn HS.out).mono ?_; rintro e w1 ⟨rfl, he1⟩)
        go_ret
        refine ⟨?_, HE.out.trans he1⟩
        rw [HF.out]; rfl
end Go.Proofs.Ytgkclldiphcogaa

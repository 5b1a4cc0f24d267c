/- Layer 7: shown: the document's examples. -/
import Derived.Test.YtppmekmaclolbaaTreCheck
import Derived.Test.YtppmekmaclolbaaTreOwn
namespace Go.Proofs.Ytppmekmaclolbaa
set_option linter.unusedVariables false
open Go.RowKit Go.Maps
open Nam Tre

def rootV : Nv := ⟨none, 0, 0, 1, 1, 0, 0, 0, none, 0, 0, ⟨#[]⟩, none, 0, 0, false⟩
def rootN : Nod := ⟨[], 1, 1, 0, 0, 0, [], ⟨#[]⟩, [], false⟩
def fileV (p : Nat) : Nv := ⟨some ⟨p, 0, none⟩, 2, 2, 2, 2, 0, 0, 0, none, 0, 0, ⟨#[]⟩, none, 0, 0, false⟩
def fileN : Nod := ⟨[⟨#[97]⟩, ⟨#[98]⟩], 2, 2, 0, 0, 0, [], ⟨#[]⟩, [], false⟩
theorem bs_nil (w : World) (ao : Option Addr) : Bs w ao 0 [] := ⟨rfl, fun i => by simp [Lz.g], .inl rfl⟩
theorem rootRep (w : World) : Rep w rootV rootN where
  names := Rs.nil _ _
  nc := Nat.le_refl _
  ncm := by decide
  nnil := fun _ => rfl
  ino := rfl
  in64 := by decide
  kind := rfl
  mode := rfl
  uid := rfl
  gid := rfl
  data := bs_nil _ _
  dc := Nat.le_refl _
  dcm := by decide
  dnil := fun _ => rfl
  tg := rfl
  tgm := (by decide : (0 : Nat) ≤ 9223372036854775807)
  xs := XsR.nil _ _
  xc := Nat.le_refl _
  xcm := by decide
  xnil := fun _ => rfl
  op := rfl
theorem fileRep (w : World) (p : Nat) (h : Rs w (some ⟨p, 0, none⟩) 2 [⟨#[97]⟩, ⟨#[98]⟩]) : Rep w (fileV p) fileN where
  names := h
  nc := Nat.le_refl _
  ncm := (by decide : (2 : Nat) ≤ 9223372036854775807)
  nnil := fun h => by cases h
  ino := rfl
  in64 := (by decide : (Lit.int .i64 2).wf = true)
  kind := rfl
  mode := rfl
  uid := rfl
  gid := rfl
  data := bs_nil _ _
  dc := Nat.le_refl _
  dcm := (by decide : (0 : Nat) ≤ 9223372036854775807)
  dnil := fun _ => rfl
  tg := rfl
  tgm := (by decide : (0 : Nat) ≤ 9223372036854775807)
  xs := XsR.nil _ _
  xc := Nat.le_refl _
  xcm := (by decide : (0 : Nat) ≤ 9223372036854775807)
  xnil := fun _ => rfl
  op := rfl
theorem empty_toList : (⟨#[]⟩ : ByteArray).toList = [] := toList_mk []
theorem may_root : may rootN = true := by
  simp [may, kdOk, attrOk, xsOk, xs1, rootN]
theorem check_one : check [rootN] = 0 := by
  refine check_ok (by decide) rfl (by decide) (by simp) ?_ ?_ ?_ (by simp)
  · simp [isDir, rootN]
  · simp [inDir, rootN]
  · rw [List.all_cons, may_root]; rfl
theorem check_none : check [] = 4 := check_root (by decide) rfl rfl (by simp) rfl
theorem wrong_file : wrong [rootN, fileN] = 0 := by
  have h1 : valid [97] = 0 := by decide
  have h2 : valid [98] = 0 := by decide
  simp [wrong, rootN, fileN, fv, h1, h2]
theorem check_file : check [rootN, fileN] = 5 := by
  refine check_parent (by decide) wrong_file (by decide) (by simp [rootN, fileN]) ?_ ?_
  · simp [isDir, rootN]
  · simp [inDir, isDir, rootN, fileN]
theorem rs_two (w : World) (s t : ByteArray) : Rs (w.alloc (.cells #[.string s, .string t] 9)) (some ⟨w.heap.size, 0, none⟩) 2 [s, t] := by
  refine ⟨rfl, .inr ⟨w.heap.size, 0, rfl, by simp, fun i hi => ?_⟩⟩
  match i, hi with
  | 0, _ => simp [gs]
  | 1, _ => simp [gs]
theorem Check_at (a : Option Addr) (n c : Nat) (L : List (Nv × Nod)) (z : Int) (w : World) (hz : check (nds L) = z) (hl : Sh w a n (L.map (·.1))) (hr : ∀ p ∈ L, Rep w p.1 p.2) (hc : n ≤ c) (hcm : c ≤ 9223372036854775807) :
    Calls Try.prog 11 #[.slice a n c] w fun e w' => e = .returned (.int .i64 z) ∧ Below w.heap.size w w' := by
  subst hz
  exact Check_any a n c L w (hl.ns hr) hc hcm
set_option maxRecDepth 100000 in
theorem shown_any (w : World) : Calls Try.prog 9 #[] w fun e w' => e = .returned (.bool true) ∧ Below w.heap.size w w' := by
  have bel : Hid (∀ o p, Below w.heap.size w ((w.alloc o).alloc p)) := fun o p => below_alloc2 w o p
  go_enter Try.func9, Try.ntmps9
  go_wp2_with (go_at_call 11; refine (Check_at _ 1 1 [(rootV, rootN)] 0 _ check_one (sh_one' (v := rootV) (by simp)) (fun p hp => by rw [List.mem_singleton] at hp; subst hp; exact rootRep _) (by omega) (by omega)).mono ?_)
  rintro e w1 ⟨rfl, hb1⟩
  have bx := (boxed w rootV).below ((Below.refl _ (w.alloc (.cells rootV.cells 42))).alloc (Nat.le_refl _) (.cells rootV.cells 42))
  have BX := hide (bx.below hb1)
  have E1 : Hid (Below w.heap.size w w1) := (bel.out _ _).trans (hb1.mono (bel.out _ _).size)
  clear hb1 bx
  go_wp2_with (go_at_call 11; refine (Check_at none 0 0 [] 4 _ check_none ⟨rfl, .inl rfl⟩ (fun p hp => by simp at hp) (by omega) (by omega)).mono ?_)
  rintro e w2 ⟨rfl, hb2⟩
  have BX2 := hide (BX.out.below hb2)
  have E2 := hide (E1.out.trans (hb2.mono E1.out.size))
  obtain ⟨_, b0, b1, b2, b3, b4, b5, b6, b7, b8, b9⟩ := BX.out.below hb2
  simp only [rootV] at b0 b1 b2 b3 b4 b5 b6 b7 b8 b9
  have bel2 : Hid (∀ o p, Below w2.heap.size w2 ((w2.alloc o).alloc p)) := fun o p => below_alloc2 w2 o p
  clear hb2
  go_wp2_with (go_at_call 11; refine (Check_at _ 2 2 [(rootV, rootN), (fileV w2.heap.size, fileN)] 5 _ check_file (sh_two' (v := rootV) (u := fileV w2.heap.size) (by simp)) (fun p hp => by
    rcases List.mem_cons.1 hp with rfl | hp
    · exact rootRep _
    · rw [List.mem_singleton] at hp
      subst hp
      exact fileRep _ _ ((rs_two w2 ⟨#[97]⟩ ⟨#[98]⟩).below ((Below.refl _ _).alloc (Nat.le_refl _) _))) (by omega) (by omega)).mono ?_)
  rintro e w3 ⟨rfl, hb3⟩
  have E3 : Hid (Below w.heap.size w w3) := (E2.out.trans ((bel2.out _ _).mono E2.out.size)).trans (hb3.mono (by have := E2.out.size; simp; omega))
  clear hb3
  go_wp2
  go_ret
  exact ⟨rfl, E3.out⟩
end Go.Proofs.Ytppmekmaclolbaa

/- What the proof stands on: BldOnceP, with what the proof reaches of it. -/
import Derived.Test.YtchcejjoncihkaaGreatDoorJBldBuild

/- Layer 14, on lists alone: a root with one file, and with that file twice. -/
namespace Go.Proofs.YtchcejjoncihkaaGreatDoor.Bld
set_option linter.unusedVariables false
open Lz (g)
open Crc (ent)
open Frm Mtr Tre Nam Tab

/-- A file of bytes. -/
def fa (c : UInt8) (i : Int) (b : List Int) : Nod := ⟨[⟨#[c]⟩], i, 2, 0, 0, 0, b, ⟨#[]⟩, [], false⟩
def l2 (b : List Int) : List Nod := [n1, fa 97 2 b]
def l3 (b : List Int) : List Nod := [n1, fa 97 2 b, fa 98 3 b]
section
variable {b : List Int}
theorem emp0 : (⟨#[]⟩ : ByteArray).toList.isEmpty = true := by decide +kernel
theorem fv97 : fv [⟨#[97]⟩] = 0 := by decide +kernel
theorem fv98 : fv [⟨#[98]⟩] = 0 := by decide +kernel
theorem l2_wrong (b : List Int) : wrong (l2 b) = 0 := by
  show (if fv [] = 0 then (if fv [⟨#[97]⟩] = 0 then (0 : Int) else fv [⟨#[97]⟩]) else fv []) = 0
  rw [if_pos (show fv [] = 0 from rfl), if_pos fv97]
theorem l3_wrong (b : List Int) : wrong (l3 b) = 0 := by
  show (if fv [] = 0 then (if fv [⟨#[97]⟩] = 0 then (if fv [⟨#[98]⟩] = 0 then (0 : Int) else fv [⟨#[98]⟩]) else fv [⟨#[97]⟩]) else fv []) = 0
  rw [if_pos (show fv [] = 0 from rfl), if_pos fv97, if_pos fv98]
theorem lt_ab : less (nm [⟨#[98]⟩]) (nm [⟨#[97]⟩]) = false := by decide +kernel
theorem n1_may : Tre.may n1 = true := by decide +kernel
theorem fa_may {c : UInt8} {i : Int} (h : b.length ≤ 4096) : Tre.may (fa c i b) = true := by
  have e : kdOk (fa c i b) = true := by
    unfold kdOk fa
    simp only []
    rw [if_neg (by decide), if_pos trivial]
    simp only [Bool.and_eq_true, decide_eq_true_eq]
    exact ⟨h, emp0⟩
  unfold Tre.may
  rw [e]
  rfl
theorem l2_check (h : b.length ≤ 4096) : check (l2 b) = 0 := by
  refine check_ok (by simp [l2]) (l2_wrong b) rfl ?_ rfl rfl ?_ ?_
  · show ([[], [⟨#[97]⟩]] : List (List ByteArray)).Nodup
    decide
  · unfold l2
    rw [List.all_cons, List.all_cons, fa_may h, n1_may]; rfl
  · unfold l2
    refine List.pairwise_cons.2 ⟨fun x hx => ?_, List.pairwise_singleton _ _⟩
    rw [List.mem_singleton.1 hx]
    exact fun e => absurd (show (1 : Int) = 2 from e) (by decide)
theorem l3_check (h : b.length ≤ 4096) : check (l3 b) = 0 := by
  refine check_ok (by simp [l3]) (l3_wrong b) rfl ?_ rfl rfl ?_ ?_
  · show ([[], [⟨#[97]⟩], [⟨#[98]⟩]] : List (List ByteArray)).Nodup
    decide
  · unfold l3
    rw [List.all_cons, List.all_cons, List.all_cons, fa_may h, fa_may h, n1_may]; rfl
  · unfold l3
    refine List.pairwise_cons.2 ⟨fun x hx => ?_, List.pairwise_cons.2 ⟨fun x hx => ?_, List.pairwise_singleton _ _⟩⟩
    · simp only [List.mem_cons, List.not_mem_nil, or_false] at hx
      rcases hx with rfl | rfl
      · exact fun e => absurd (show (1 : Int) = 2 from e) (by decide)
      · exact fun e => absurd (show (1 : Int) = 3 from e) (by decide)
    · rw [List.mem_singleton.1 hx]
      exact fun e => absurd (show (2 : Int) = 3 from e) (by decide)
theorem l2_canon (h : b.length ≤ 4096) {l : List Nod} (hc : IsCanon (l2 b) l) : l = l2 b := by
  refine canon_one (check_zero (l2_check h)).2.2.2.1 hc ⟨l2 b, List.Perm.refl _, ?_, rfl⟩
  unfold l2
  refine List.pairwise_cons.2 ⟨fun x hx => ?_, List.pairwise_singleton _ _⟩
  rw [List.mem_singleton.1 hx]; rfl
theorem l3_canon (h : b.length ≤ 4096) {l : List Nod} (hc : IsCanon (l3 b) l) : l = l3 b := by
  refine canon_one (check_zero (l3_check h)).2.2.2.1 hc ⟨l3 b, List.Perm.refl _, ?_, rfl⟩
  unfold l3
  refine List.pairwise_cons.2 ⟨fun x hx => ?_, List.pairwise_cons.2 ⟨fun x hx => ?_, List.pairwise_singleton _ _⟩⟩
  · simp only [List.mem_cons, List.not_mem_nil, or_false] at hx
    rcases hx with rfl | rfl <;> rfl
  · rw [List.mem_singleton.1 hx]; exact lt_ab
/-- A file's record is one more. -/
theorem wr_file {l : List Nod} {own : List Int} {fm : Fm} {f i : Nat} {s : Ws} (hk : (gn l i).kind = 2) (hn : lkR l s.R (gn l i).ino = none) : ∃ x, (wr l own fm (f + 1) i s).1.R = s.R ++ [(i, x)] := by
  rw [wr_none hn]
  unfold fin
  simp only []
  rw [(xat_R _ _).1]
  unfold okd
  rw [if_neg (by rw [hk]; decide), if_pos hk]
  exact ⟨_, rfl⟩
theorem wr_dir {l : List Nod} {own : List Int} {fm : Fm} {f i : Nat} {s : Ws} (hk : (gn l i).kind = 1) (hn : lkR l s.R (gn l i).ino = none) : ∃ x, (wr l own fm (f + 1) i s).1.R = (kids l (wr l own fm f) (gn l i).names.length (kidsN l (gn l i).names) (s, [])).1.R ++ [(i, x)] := by
  rw [wr_none hn]
  unfold fin
  simp only []
  rw [(xat_R _ _).1]
  unfold okd
  rw [if_pos hk]
  exact ⟨_, rfl⟩
theorem l2_R (own : List Int) : (wq (l2 b) own).1.R.length = 2 := by
  unfold wq
  obtain ⟨x, hx⟩ := wr_dir (l := l2 b) (own := own) (fm := (cont (l2 b) (l2 b).length).m) (f := 16) (i := 0) (s := ws0) rfl rfl
  have hk : kidsN (l2 b) (gn (l2 b) 0).names = [1] := rfl
  rw [hx, hk, List.length_append]
  show (wr (l2 b) own (cont (l2 b) (l2 b).length).m 16 1 ws0).1.R.length + 1 = 2
  obtain ⟨y, hy⟩ := wr_file (l := l2 b) (own := own) (fm := (cont (l2 b) (l2 b).length).m) (f := 15) (i := 1) (s := ws0) rfl rfl
  rw [hy]; rfl
theorem l3_R (own : List Int) : (wq (l3 b) own).1.R.length = 3 := by
  unfold wq
  obtain ⟨x, hx⟩ := wr_dir (l := l3 b) (own := own) (fm := (cont (l3 b) (l3 b).length).m) (f := 16) (i := 0) (s := ws0) rfl rfl
  have hk : kidsN (l3 b) (gn (l3 b) 0).names = [1, 2] := rfl
  rw [hx, hk, List.length_append]
  obtain ⟨y, hy⟩ := wr_file (l := l3 b) (own := own) (fm := (cont (l3 b) (l3 b).length).m) (f := 15) (i := 1) (s := ws0) rfl rfl
  show (wr (l3 b) own (cont (l3 b) (l3 b).length).m 16 2 (wr (l3 b) own (cont (l3 b) (l3 b).length).m 16 1 ws0).1).1.R.length + 1 = 3
  have hn : lkR (l3 b) (wr (l3 b) own (cont (l3 b) (l3 b).length).m 16 1 ws0).1.R (gn (l3 b) 2).ino = none := by rw [hy]; rfl
  obtain ⟨z, hz⟩ := wr_file (l := l3 b) (own := own) (fm := (cont (l3 b) (l3 b).length).m) (f := 15) (i := 2) (s := (wr (l3 b) own (cont (l3 b) (l3 b).length).m 16 1 ws0).1) rfl hn
  rw [hz, hy]; rfl
theorem tl_none (h : b.length % 128 = 0) : Dat.tl b = [] := List.eq_nil_of_length_eq_zero (by rw [Dat.tl_length]; exact h)
theorem l2_y1 (h : b.length % 128 = 0) : y1 (l2 b) = (Dat.addS 64 ([], []) (Dat.run ent b)).1 ∧ (cont (l2 b) 2).b = [] := by
  have ht := tl_none h
  have e : cont (l2 b) 2 = ⟨Dat.addS 64 ([], []) (Dat.run ent b), (Frg.add [] (Dat.tl b)).1, [(2, ⟨Dat.addA 64 ([], []) (Dat.run ent b), (Frg.add [] (Dat.tl b)).2.1, (Frg.add [] (Dat.tl b)).2.2⟩)]⟩ := rfl
  have eb : (cont (l2 b) 2).b = [] := by rw [e, ht, Frg.add_bad (.inl (by simp))]
  refine ⟨?_, eb⟩
  show (plc (cont (l2 b) 2).b (cont (l2 b) 2).s.1 (cont (l2 b) 2).b.length).1 = _
  rw [eb, e]; rfl
theorem l3_y1 (h : b.length % 128 = 0) : y1 (l3 b) = (Dat.addS 64 ([], []) (Dat.run ent b)).1 := by
  have ht := tl_none h
  have e2 : cont (l3 b) 2 = ⟨Dat.addS 64 ([], []) (Dat.run ent b), (Frg.add [] (Dat.tl b)).1, [(2, ⟨Dat.addA 64 ([], []) (Dat.run ent b), (Frg.add [] (Dat.tl b)).2.1, (Frg.add [] (Dat.tl b)).2.2⟩)]⟩ := rfl
  have e3 : cont (l3 b) 3 = cstep (cont (l3 b) 2) (fa 98 3 b) := rfl
  rw [e2, ht, Frg.add_bad (.inl (by simp))] at e3
  have e4 : cont (l3 b) 3 = ⟨Dat.addS 64 (Dat.addS 64 ([], []) (Dat.run ent b)) (Dat.run ent b), (Frg.add [] (Dat.tl b)).1, [(2, ⟨Dat.addA 64 ([], []) (Dat.run ent b), 0, 0⟩)] ++ [(3, ⟨Dat.addA 64 (Dat.addS 64 ([], []) (Dat.run ent b)) (Dat.run ent b), (Frg.add [] (Dat.tl b)).2.1, (Frg.add [] (Dat.tl b)).2.2⟩)]⟩ := e3
  have eb : (cont (l3 b) 3).b = [] := by rw [e4, ht, Frg.add_bad (.inl (by simp))]
  show (plc (cont (l3 b) 3).b (cont (l3 b) 3).s.1 (cont (l3 b) 3).b.length).1 = _
  rw [eb, e4]
  show (Dat.addS 64 (Dat.addS 64 ([], []) (Dat.run ent b)) (Dat.run ent b)).1 = _
  rw [((Dat.has_add 64 ([], []) (Dat.run ent b)).add (first := 64)).2]
theorem two_isb {o2 o3 : List Int} (h : b.length % 128 = 0) : (isb (l2 b) o2).inodes = 2 ∧ (isb (l3 b) o3).inodes = 3 ∧ (isb (l2 b) o2).inodeAt = (isb (l3 b) o3).inodeAt := by
  refine ⟨?_, ?_, ?_⟩
  · show (((wq (l2 b) o2).1.R.length : Nat) : Int) = 2; rw [l2_R]; rfl
  · show (((wq (l3 b) o3).1.R.length : Nat) : Int) = 3; rw [l3_R]; rfl
  · show ((64 + (y1 (l2 b)).length : Nat) : Int) = ((64 + (y1 (l3 b)).length : Nat) : Int)
    rw [(l2_y1 h).1, l3_y1 h]
end
end Go.Proofs.YtchcejjoncihkaaGreatDoor.Bld

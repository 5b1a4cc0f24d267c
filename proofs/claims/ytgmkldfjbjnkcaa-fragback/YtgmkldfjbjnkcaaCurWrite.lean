/- The walks of the program's writer: Bytes, Num, Text, Done. -/
import Derived.Test.YtgmkldfjbjnkcaaCurRead
namespace Go.Proofs.Ytgmkldfjbjnkcaa
set_option linter.unusedVariables false
open Go.RowKit Go.Maps
open Lz (g)
open Cur

/-- What a call leaves of a writer. -/
def WrDone (w w' : World) (p B : Nat) (v : Value) (s' : St) : Prop := ∃ v', WrP w' p B v' s' ∧ Fr (Two p v) w w' ∧ Lie w v v'
theorem WrP.shape {w : World} {p B : Nat} {v : Value} {s : St} (h : WrP w p B v s) : ∃ ao n c, v = .slice ao n c ∧ Hd 81 w p ao n c s.2 ∧ s.1.length = n := by
  obtain ⟨ao, n, c, h1, h2, h3, _⟩ := h
  exact ⟨ao, n, c, h1, h2, by have := h3.1; rw [bv_length] at this; omega⟩
theorem WrP.refl {w : World} {p B : Nat} {v : Value} {s : St} (h : WrP w p B v s) : WrDone w w p B v s := ⟨v, h, Fr.refl _ _, Lie.refl _ _⟩
theorem wr_failed {w w' : World} {p B n c : Nat} {ao : Option Addr} {k : Int} {s : St} (h : WrP w p B (.slice ao n c) s) (hf : Failed 81 w p ao n c s.2 k w') : WrDone w w' p B (.slice ao n c) (fl k s) := by
  obtain ⟨hfr, ⟨he, hx⟩ | ⟨he, rfl⟩⟩ := hf
  · unfold fl; rw [if_pos he]
    exact ⟨.slice none 0 0, ⟨none, 0, 0, rfl, hx, World.ownsRow_nil _ _ _ _, Bytes.nil, .inr rfl⟩, hfr.mono (fun i _ h => .inl h), fun k hk => by simp [Value.ownBlock] at hk⟩
  · unfold fl; rw [if_neg he]; exact h.refl
/-- One call behind the other. -/
theorem WrDone.trans {w w1 w2 : World} {p B : Nat} {v v1 : Value} {s2 : St} (hf : Fr (Two p v) w w1) (hl : Lie w v v1) (h2 : WrDone w1 w2 p B v1 s2) : WrDone w w2 p B v s2 := by
  obtain ⟨v2, h3, h4, h5⟩ := h2
  refine ⟨v2, h3, hf.trans h4 (fun i hi hx => ?_), hl.trans hf.size h5⟩
  rcases hx with hx | hx
  · exact .inl hx
  · rcases hl i hx with h6 | h6
    · exact .inr h6
    · omega
/-- The writer, where new blocks alone have come. -/
theorem WrP.below {w w' : World} {p B : Nat} {v : Value} {s : St} (h : WrP w p B v s) (hb : Below w.heap.size w w') : WrP w' p B v s := by
  obtain ⟨ao, n, c, rfl, h2, h3, h4⟩ := h
  have hf : Fr (fun _ => False) w w' := Fr.of_below hb
  exact ⟨ao, n, c, rfl, h2.fr hf id, owns_fr h3 hf (fun _ _ => id), h4⟩
theorem wr_byt {w w1 : World} {p B n c m : Nat} {ao ao' : Option Addr} {c' : Nat} {zs : List Int} {s : St} (h : WrP w p B (.slice ao n c) s) (h0 : s.2 = 0) (ho : w1.ownsRow B 5 1 (.slice ao' m c') m (bv (s.1 ++ zs))) (hg : w.grownBy w1 (Value.slice ao n c).ownBlock) (hl : Lie w (.slice ao n c) (.slice ao' m c')) (hz : Bytes zs) :
    WrDone w (w1.setCell ⟨p, 0, none⟩ (.slice ao' m c')) p B (.slice ao n c) (wByt zs s) := by
  obtain ⟨_, _, _, hv, h2, h3, h4, h5⟩ := h
  obtain ⟨rfl, rfl, rfl⟩ : ao = _ ∧ n = _ ∧ c = _ := by simpa using hv
  have hne := owns_ne_hd h3 h2 (by decide)
  have hf : Fr (Two p (.slice ao n c)) w w1 := Fr.of_grown hg (fun k hk => .inr hk)
  have hd1 : Hd 81 w1 p ao n c s.2 := h2.fr (Fr.of_grown (S := fun k => (Value.slice ao n c).ownBlock = some k) hg (fun k hk => hk)) hne
  have hd2 := hd1.set0 ao' m c'
  have e : wByt zs s = (s.1 ++ zs, 0) := by unfold wByt; rw [if_pos h0]
  rw [e]
  refine ⟨.slice ao' m c', ⟨ao', m, c', rfl, by rw [h0] at hd2; exact hd2, ?_, h4.append hz, .inl rfl⟩, hf.set (p := ⟨p, 0, none⟩) _ (fun _ => .inl rfl), hl⟩
  refine owns_fr (S := One p) ho ((Fr.refl _ _).set (p := ⟨p, 0, none⟩) _ (fun _ => rfl)) (fun k hk hx => ?_)
  have := owns_ne_hd ho hd1 (by decide)
  rw [hk, hx] at this
  exact this rfl

set_option maxRecDepth 100000 in
theorem wBytes_any (p B n c : Nat) (ao : Option Addr) (v : Value) (zs : List Int) (s : St) (w : World) (h : WrP w p B v s) (hB : B ≤ w.heap.size) (hb : Bs w ao n zs) (hnil : ao = none → c = 0) (hbd : s.1.length + n ≤ 100000000) :
    Calls Try.prog 36 #[.pointer (some ⟨p, 0, none⟩), .slice ao n c] w fun r w' => r = .returned (.tuple #[]) ∧ WrDone w w' p B v (wByt zs s) := by
  have HW : Hid (WrP w p B v s) := h
  obtain ⟨vo, vn, vc, rfl, hd, ho, hby, hcan⟩ := h
  have hlen : s.1.length = vn := by have := ho.1; rw [bv_length] at this; omega
  have h0 := hd.c0
  have h1 := hd.c1
  by_cases he : s.2 = 0
  · have hne := owns_ne_hd ho hd (by decide)
    have HD : Hid (Hd 81 w p vo vn vc s.2) := hd
    have HZ : Hid (Bytes zs) := hb.bytes
    have HE : Hid (s.2 = 0) := he
    rw [he] at h1
    clear hd he
    go_enter Try.func36, Try.ntmps36
    go_wp2_with (first
      | (at_builtin
         refine wpList_append_at _ rfl (.tmp 15) (.tmp 16) rfl B vo vn vc s.1 rfl ho ao n c zs rfl hb hnil (by omega) hB ?_
         intro ao' c' w1 ho1 hg1 hl1
         have hd1 : Hd 81 w1 p vo vn vc s.2 := HD.out.fr (Fr.of_grown (S := fun k => (Value.slice vo vn vc).ownBlock = some k) hg1 (fun k hk => hk)) hne
         have h01 := hd1.c0
         have f01 := hd1.f 0
         have HG : Hid (w.grownBy w1 (Value.slice vo vn vc).ownBlock) := hg1
         have HL : Hid (Lie w (.slice vo vn vc) (.slice ao' (vn + n) c')) := hl1
         have HO : Hid (w1.ownsRow B 5 1 (.slice ao' (vn + n) c') (vn + n) (bv (s.1 ++ zs))) := ho1
         clear hg1 hl1 ho1 hd1))
    go_end0
    exact ⟨rfl, wr_byt HW.out HE.out HO.out HG.out HL.out HZ.out⟩
  · have HX : Hid (WrDone w w p B (.slice vo vn vc) (wByt zs s)) := by
      have : wByt zs s = s := by unfold wByt; rw [if_neg he]
      rw [this]; exact HW.out.refl
    clear hd ho hby hcan hb
    go_enter Try.func36, Try.ntmps36
    go_wp2
    go_end0
    exact ⟨rfl, HX.out⟩

set_option maxRecDepth 100000 in
theorem Done_any (p B : Nat) (v : Value) (s : St) (w : World) (h : WrP w p B v s) (hbd : s.1.length ≤ 100000000) :
    Calls Try.prog 39 #[.pointer (some ⟨p, 0, none⟩)] w fun r w' => Copied w w' s.1 r := by
  obtain ⟨vo, vn, vc, rfl, hd, ho, hby, hcan⟩ := h
  have hlen : s.1.length = vn := by have := ho.1; rw [bv_length] at this; omega
  have h0 := hd.c0
  have HB : Hid (Bs w vo vn s.1) := bs_of_owns ho hby
  have HN : Hid (vo = none → vc = 0) := nil_cap ho
  have hc := cap_of_owns ho
  clear hd ho
  go_enter Try.func39, Try.ntmps39
  go_wp2_with fail
  refine (Clone_any vn vc vo s.1 w HB.out hc HN.out (by omega)).mono ?_
  rintro r w2 ⟨ao', c', rfl, hb', hc', hc2, hnil', hbel⟩
  have HX : Hid (Copied w w2 s.1 (.returned (.slice ao' vn c'))) := ⟨ao', c', by rw [hlen], hb', hc', hc2, hnil', hbel⟩
  clear hb' hbel hnil'
  go_wp2
  go_ret
  exact HX.out

/-- The number's cells, the first i of them laid. -/
def nc (x : Int) (i : Nat) : Array Value := #[.int .u8 (if 0 < i then x % 256 else 0), .int .u8 (if 1 < i then x / 256 % 256 else 0), .int .u8 (if 2 < i then x / 65536 % 256 else 0), .int .u8 (if 3 < i then x / 16777216 % 256 else 0)]
theorem by_length : ∀ (n : Nat) (x : Int), (by' n x).length = n
  | 0, _ => rfl
  | n + 1, x => by simp [by', by_length n]
theorem by_bytes : ∀ (n : Nat) (x : Int), Bytes (by' n x)
  | 0, _ => Bytes.nil
  | n + 1, x => fun y hy => by
    rcases List.mem_cons.1 hy with rfl | hy
    · omega
    · exact by_bytes n _ y hy
theorem nc_bs {w : World} {q n : Nat} {x : Int} (hq : w.heap[q]? = some (.cells (nc x n) 102 (0, 0))) (hn : 1 ≤ n ∧ n ≤ 4) (hlt : q < w.heap.size) : Bs w (some ⟨q, 0, none⟩) n (by' n x) := by
  refine ⟨by_length _ _, (by_bytes _ _).g, .inr ⟨q, 0, rfl, hlt, fun i hi => ?_⟩⟩
  rw [by_length] at hi
  simp only [World.cell?, hq, Nat.zero_add]
  have e2 : x / 256 / 256 = x / 65536 := by omega
  have e3 : x / 65536 / 256 = x / 16777216 := by omega
  obtain rfl | rfl | rfl | rfl : n = 1 ∨ n = 2 ∨ n = 3 ∨ n = 4 := by omega
  · obtain rfl : i = 0 := by omega
    simp [nc, by', g]
  · obtain rfl | rfl : i = 0 ∨ i = 1 := by omega
    all_goals simp [nc, by', g]
  · obtain rfl | rfl | rfl : i = 0 ∨ i = 1 ∨ i = 2 := by omega
    all_goals simp [nc, by', g, e2]
  · obtain rfl | rfl | rfl | rfl : i = 0 ∨ i = 1 ∨ i = 2 ∨ i = 3 := by omega
    all_goals simp [nc, by', g, e2, e3]

set_option maxRecDepth 100000 in
theorem wNum_fits (p B : Nat) (v : Value) (x n : Int) (s : St) (w : World) (h : WrP w p B v s) (hB : B ≤ w.heap.size) (hbd : s.1.length ≤ 10000000) (hx : -9223372036854775808 ≤ x ∧ x ≤ 9223372036854775807) (hw : 1 ≤ n ∧ n ≤ 4 ∧ 0 ≤ x ∧ x < 256 ^ n.toNat) :
    Calls Try.prog 37 #[.pointer (some ⟨p, 0, none⟩), .int .i64 x, .int .i64 n] w fun r w' => r = .returned (.tuple #[]) ∧ WrDone w w' p B v (wByt (by' n.toNat x) s) := by
    have HW : Hid (WrP w p B v s) := h
    obtain ⟨hw1, hw2, hw3, hw4⟩ := hw
    have hd : decide (1 ≤ n ∧ n ≤ 4) = true := decide_eq_true ⟨hw1, hw2⟩
    obtain rfl | rfl | rfl | rfl : n = 1 ∨ n = 2 ∨ n = 3 ∨ n = 4 := by omega
    · have d1 : decide (x < 0) = false := decide_eq_false (by omega)
      have d2 : decide ((256 : Int) ≤ x) = false := decide_eq_false (by have h9 : x < 256 := hw4; omega)
      have HX0 : Hid (0 ≤ x ∧ x < 256) := ⟨hw3, hw4⟩
      clear hw1 hw2 hw4 h
      go_enter Try.func37, Try.ntmps37
      go_wp2_with fail
      refine (isWidth_any 1 w).mono ?_
      rintro r wx ⟨rfl, rfl⟩
      rw [hd]
      go_wp2
      go_loopw [27] (fun s27 wr => ∃ i : Nat, s27 = .int .i64 i ∧ i ≤ 1 ∧ wr.heap[wx.heap.size]? = some (.cells (nc x i) 102 (0, 0)) ∧ Below wx.heap.size wx wr) (fun s27 _ => 1 - (intOf s27).toNat)
      case atStart => exact ⟨0, rfl, by omega, heap_alloc_new wx _, (Below.refl _ _).alloc (Nat.le_refl _) _⟩
      case round =>
        obtain ⟨i, rfl, hi, hq, hbl⟩ := hrel
        have HB1 : Hid (Below wx.heap.size wx wr) := hbl
        clear hbl
        obtain rfl | rfl : i = 0 ∨ i = 1 := by omega
        · have hcell : wr.cell? ⟨wx.heap.size, 0, none⟩ = some (.int .u8 0) := by simp [World.cell?, hq, nc]
          have hfz : wr.frozen? ⟨wx.heap.size, 0, none⟩ = false := by simp [World.frozen?, hq]
          have HN : Hid ((wr.setCell ⟨wx.heap.size, 0, none⟩ (.int .u8 (x % 256))).heap[wx.heap.size]? = some (.cells (nc x (0 + 1)) 102 (0, 0))) := by
            show _ = _
            rw [heap_setCell_self hq]; rfl
          have HB2 : Hid (Below wx.heap.size wx (wr.setCell ⟨wx.heap.size, 0, none⟩ (.int .u8 (x % 256)))) := HB1.out.setCell (by simp) _
          clear hq
          rw [show ((0 : Nat) : Int) = 0 from rfl]
          go_wp2
          go_roundw
          case rel => exact ⟨0 + 1, by go_num, by omega, HN.out, HB2.out⟩
          case measure => simp [intOf]
        · have HS : Hid (Bs wr (some ⟨wx.heap.size, 0, none⟩) 1 (by' 1 x)) := nc_bs hq (by omega) (heap_lt hq)
          have HW2 : Hid (WrP wr p B v s) := HW.out.below HB1.out
          have hB2 : B ≤ wr.heap.size := Nat.le_trans hB HB1.out.size
          clear hq
          go_wp2_with fail
          refine (wBytes_any p B 1 4 _ v (by' 1 x) s wr HW2.out hB2 HS.out (fun h => by simp at h) (by omega)).mono ?_
          rintro r w2 ⟨rfl, hD⟩
          have HDn : Hid (WrDone wx w2 p B v (wByt (by' 1 x) s)) := WrDone.trans (Fr.of_below HB1.out) (Lie.refl _ _) hD
          clear hD
          go_wp2
          go_end0
          exact ⟨rfl, HDn.out⟩
    · have d1 : decide (x < 0) = false := decide_eq_false (by omega)
      have d2 : decide ((65536 : Int) ≤ x) = false := decide_eq_false (by have h9 : x < 65536 := hw4; omega)
      have HX0 : Hid (0 ≤ x ∧ x < 65536) := ⟨hw3, hw4⟩
      clear hw1 hw2 hw4 h
      go_enter Try.func37, Try.ntmps37
      go_wp2_with fail
      refine (isWidth_any 2 w).mono ?_
      rintro r wx ⟨rfl, rfl⟩
      rw [hd]
      go_wp2
      go_loopw [27] (fun s27 wr => ∃ i : Nat, s27 = .int .i64 i ∧ i ≤ 2 ∧ wr.heap[wx.heap.size]? = some (.cells (nc x i) 102 (0, 0)) ∧ Below wx.heap.size wx wr) (fun s27 _ => 2 - (intOf s27).toNat)
      case atStart => exact ⟨0, rfl, by omega, heap_alloc_new wx _, (Below.refl _ _).alloc (Nat.le_refl _) _⟩
      case round =>
        obtain ⟨i, rfl, hi, hq, hbl⟩ := hrel
        have HB1 : Hid (Below wx.heap.size wx wr) := hbl
        clear hbl
        obtain rfl | rfl | rfl : i = 0 ∨ i = 1 ∨ i = 2 := by omega
        · have hcell : wr.cell? ⟨wx.heap.size, 0, none⟩ = some (.int .u8 0) := by simp [World.cell?, hq, nc]
          have hfz : wr.frozen? ⟨wx.heap.size, 0, none⟩ = false := by simp [World.frozen?, hq]
          have HN : Hid ((wr.setCell ⟨wx.heap.size, 0, none⟩ (.int .u8 (x % 256))).heap[wx.heap.size]? = some (.cells (nc x (0 + 1)) 102 (0, 0))) := by
            show _ = _
            rw [heap_setCell_self hq]; rfl
          have HB2 : Hid (Below wx.heap.size wx (wr.setCell ⟨wx.heap.size, 0, none⟩ (.int .u8 (x % 256)))) := HB1.out.setCell (by simp) _
          clear hq
          rw [show ((0 : Nat) : Int) = 0 from rfl]
          go_wp2
          go_roundw
          case rel => exact ⟨0 + 1, by go_num, by omega, HN.out, HB2.out⟩
          case measure => simp [intOf]
        · have hcell : wr.cell? ⟨wx.heap.size, 1, none⟩ = some (.int .u8 0) := by simp [World.cell?, hq, nc]
          have hfz : wr.frozen? ⟨wx.heap.size, 1, none⟩ = false := by simp [World.frozen?, hq]
          have HN : Hid ((wr.setCell ⟨wx.heap.size, 1, none⟩ (.int .u8 (x / 256 % 256))).heap[wx.heap.size]? = some (.cells (nc x (1 + 1)) 102 (0, 0))) := by
            show _ = _
            rw [heap_setCell_self hq]; rfl
          have HB2 : Hid (Below wx.heap.size wx (wr.setCell ⟨wx.heap.size, 1, none⟩ (.int .u8 (x / 256 % 256)))) := HB1.out.setCell (by simp) _
          clear hq
          go_wp2
          go_roundw
          case rel => exact ⟨1 + 1, by go_num, by omega, HN.out, HB2.out⟩
          case measure => simp [intOf]
        · have HS : Hid (Bs wr (some ⟨wx.heap.size, 0, none⟩) 2 (by' 2 x)) := nc_bs hq (by omega) (heap_lt hq)
          have HW2 : Hid (WrP wr p B v s) := HW.out.below HB1.out
          have hB2 : B ≤ wr.heap.size := Nat.le_trans hB HB1.out.size
          clear hq
          go_wp2_with fail
          refine (wBytes_any p B 2 4 _ v (by' 2 x) s wr HW2.out hB2 HS.out (fun h => by simp at h) (by omega)).mono ?_
          rintro r w2 ⟨rfl, hD⟩
          have HDn : Hid (WrDone wx w2 p B v (wByt (by' 2 x) s)) := WrDone.trans (Fr.of_below HB1.out) (Lie.refl _ _) hD
          clear hD
          go_wp2
          go_end0
          exact ⟨rfl, HDn.out⟩
    · have d1 : decide (x < 0) = false := decide_eq_false (by omega)
      have d2 : decide ((16777216 : Int) ≤ x) = false := decide_eq_false (by have h9 : x < 16777216 := hw4; omega)
      have HX0 : Hid (0 ≤ x ∧ x < 16777216) := ⟨hw3, hw4⟩
      clear hw1 hw2 hw4 h
      go_enter Try.func37, Try.ntmps37
      go_wp2_with fail
      refine (isWidth_any 3 w).mono ?_
      rintro r wx ⟨rfl, rfl⟩
      rw [hd]
      go_wp2
      go_loopw [27] (fun s27 wr => ∃ i : Nat, s27 = .int .i64 i ∧ i ≤ 3 ∧ wr.heap[wx.heap.size]? = some (.cells (nc x i) 102 (0, 0)) ∧ Below wx.heap.size wx wr) (fun s27 _ => 3 - (intOf s27).toNat)
      case atStart => exact ⟨0, rfl, by omega, heap_alloc_new wx _, (Below.refl _ _).alloc (Nat.le_refl _) _⟩
      case round =>
        obtain ⟨i, rfl, hi, hq, hbl⟩ := hrel
        have HB1 : Hid (Below wx.heap.size wx wr) := hbl
        clear hbl
        obtain rfl | rfl | rfl | rfl : i = 0 ∨ i = 1 ∨ i = 2 ∨ i = 3 := by omega
        · have hcell : wr.cell? ⟨wx.heap.size, 0, none⟩ = some (.int .u8 0) := by simp [World.cell?, hq, nc]
          have hfz : wr.frozen? ⟨wx.heap.size, 0, none⟩ = false := by simp [World.frozen?, hq]
          have HN : Hid ((wr.setCell ⟨wx.heap.size, 0, none⟩ (.int .u8 (x % 256))).heap[wx.heap.size]? = some (.cells (nc x (0 + 1)) 102 (0, 0))) := by
            show _ = _
            rw [heap_setCell_self hq]; rfl
          have HB2 : Hid (Below wx.heap.size wx (wr.setCell ⟨wx.heap.size, 0, none⟩ (.int .u8 (x % 256)))) := HB1.out.setCell (by simp) _
          clear hq
          rw [show ((0 : Nat) : Int) = 0 from rfl]
          go_wp2
          go_roundw
          case rel => exact ⟨0 + 1, by go_num, by omega, HN.out, HB2.out⟩
          case measure => simp [intOf]
        · have hcell : wr.cell? ⟨wx.heap.size, 1, none⟩ = some (.int .u8 0) := by simp [World.cell?, hq, nc]
          have hfz : wr.frozen? ⟨wx.heap.size, 1, none⟩ = false := by simp [World.frozen?, hq]
          have HN : Hid ((wr.setCell ⟨wx.heap.size, 1, none⟩ (.int .u8 (x / 256 % 256))).heap[wx.heap.size]? = some (.cells (nc x (1 + 1)) 102 (0, 0))) := by
            show _ = _
            rw [heap_setCell_self hq]; rfl
          have HB2 : Hid (Below wx.heap.size wx (wr.setCell ⟨wx.heap.size, 1, none⟩ (.int .u8 (x / 256 % 256)))) := HB1.out.setCell (by simp) _
          clear hq
          go_wp2
          go_roundw
          case rel => exact ⟨1 + 1, by go_num, by omega, HN.out, HB2.out⟩
          case measure => simp [intOf]
        · have hcell : wr.cell? ⟨wx.heap.size, 2, none⟩ = some (.int .u8 0) := by simp [World.cell?, hq, nc]
          have hfz : wr.frozen? ⟨wx.heap.size, 2, none⟩ = false := by simp [World.frozen?, hq]
          have HN : Hid ((wr.setCell ⟨wx.heap.size, 2, none⟩ (.int .u8 (x / 65536 % 256))).heap[wx.heap.size]? = some (.cells (nc x (2 + 1)) 102 (0, 0))) := by
            show _ = _
            rw [heap_setCell_self hq]; rfl
          have HB2 : Hid (Below wx.heap.size wx (wr.setCell ⟨wx.heap.size, 2, none⟩ (.int .u8 (x / 65536 % 256)))) := HB1.out.setCell (by simp) _
          clear hq
          go_wp2
          go_roundw
          case rel => exact ⟨2 + 1, by go_num, by omega, HN.out, HB2.out⟩
          case measure => simp [intOf]
        · have HS : Hid (Bs wr (some ⟨wx.heap.size, 0, none⟩) 3 (by' 3 x)) := nc_bs hq (by omega) (heap_lt hq)
          have HW2 : Hid (WrP wr p B v s) := HW.out.below HB1.out
          have hB2 : B ≤ wr.heap.size := Nat.le_trans hB HB1.out.size
          clear hq
          go_wp2_with fail
          refine (wBytes_any p B 3 4 _ v (by' 3 x) s wr HW2.out hB2 HS.out (fun h => by simp at h) (by omega)).mono ?_
          rintro r w2 ⟨rfl, hD⟩
          have HDn : Hid (WrDone wx w2 p B v (wByt (by' 3 x) s)) := WrDone.trans (Fr.of_below HB1.out) (Lie.refl _ _) hD
          clear hD
          go_wp2
          go_end0
          exact ⟨rfl, HDn.out⟩
    · have d1 : decide (x < 0) = false := decide_eq_false (by omega)
      have d2 : decide ((4294967296 : Int) ≤ x) = false := decide_eq_false (by have h9 : x < 4294967296 := hw4; omega)
      have HX0 : Hid (0 ≤ x ∧ x < 4294967296) := ⟨hw3, hw4⟩
      clear hw1 hw2 hw4 h
      go_enter Try.func37, Try.ntmps37
      go_wp2_with fail
      refine (isWidth_any 4 w).mono ?_
      rintro r wx ⟨rfl, rfl⟩
      rw [hd]
      go_wp2
      go_loopw [27] (fun s27 wr => ∃ i : Nat, s27 = .int .i64 i ∧ i ≤ 4 ∧ wr.heap[wx.heap.size]? = some (.cells (nc x i) 102 (0, 0)) ∧ Below wx.heap.size wx wr) (fun s27 _ => 4 - (intOf s27).toNat)
      case atStart => exact ⟨0, rfl, by omega, heap_alloc_new wx _, (Below.refl _ _).alloc (Nat.le_refl _) _⟩
      case round =>
        obtain ⟨i, rfl, hi, hq, hbl⟩ := hrel
        have HB1 : Hid (Below wx.heap.size wx wr) := hbl
        clear hbl
        obtain rfl | rfl | rfl | rfl | rfl : i = 0 ∨ i = 1 ∨ i = 2 ∨ i = 3 ∨ i = 4 := by omega
        · have hcell : wr.cell? ⟨wx.heap.size, 0, none⟩ = some (.int .u8 0) := by simp [World.cell?, hq, nc]
          have hfz : wr.frozen? ⟨wx.heap.size, 0, none⟩ = false := by simp [World.frozen?, hq]
          have HN : Hid ((wr.setCell ⟨wx.heap.size, 0, none⟩ (.int .u8 (x % 256))).heap[wx.heap.size]? = some (.cells (nc x (0 + 1)) 102 (0, 0))) := by
            show _ = _
            rw [heap_setCell_self hq]; rfl
          have HB2 : Hid (Below wx.heap.size wx (wr.setCell ⟨wx.heap.size, 0, none⟩ (.int .u8 (x % 256)))) := HB1.out.setCell (by simp) _
          clear hq
          rw [show ((0 : Nat) : Int) = 0 from rfl]
          go_wp2
          go_roundw
          case rel => exact ⟨0 + 1, by go_num, by omega, HN.out, HB2.out⟩
          case measure => simp [intOf]
        · have hcell : wr.cell? ⟨wx.heap.size, 1, none⟩ = some (.int .u8 0) := by simp [World.cell?, hq, nc]
          have hfz : wr.frozen? ⟨wx.heap.size, 1, none⟩ = false := by simp [World.frozen?, hq]
          have HN : Hid ((wr.setCell ⟨wx.heap.size, 1, none⟩ (.int .u8 (x / 256 % 256))).heap[wx.heap.size]? = some (.cells (nc x (1 + 1)) 102 (0, 0))) := by
            show _ = _
            rw [heap_setCell_self hq]; rfl
          have HB2 : Hid (Below wx.heap.size wx (wr.setCell ⟨wx.heap.size, 1, none⟩ (.int .u8 (x / 256 % 256)))) := HB1.out.setCell (by simp) _
          clear hq
          go_wp2
          go_roundw
          case rel => exact ⟨1 + 1, by go_num, by omega, HN.out, HB2.out⟩
          case measure => simp [intOf]
        · have hcell : wr.cell? ⟨wx.heap.size, 2, none⟩ = some (.int .u8 0) := by simp [World.cell?, hq, nc]
          have hfz : wr.frozen? ⟨wx.heap.size, 2, none⟩ = false := by simp [World.frozen?, hq]
          have HN : Hid ((wr.setCell ⟨wx.heap.size, 2, none⟩ (.int .u8 (x / 65536 % 256))).heap[wx.heap.size]? = some (.cells (nc x (2 + 1)) 102 (0, 0))) := by
            show _ = _
            rw [heap_setCell_self hq]; rfl
          have HB2 : Hid (Below wx.heap.size wx (wr.setCell ⟨wx.heap.size, 2, none⟩ (.int .u8 (x / 65536 % 256)))) := HB1.out.setCell (by simp) _
          clear hq
          go_wp2
          go_roundw
          case rel => exact ⟨2 + 1, by go_num, by omega, HN.out, HB2.out⟩
          case measure => simp [intOf]
        · have hcell : wr.cell? ⟨wx.heap.size, 3, none⟩ = some (.int .u8 0) := by simp [World.cell?, hq, nc]
          have hfz : wr.frozen? ⟨wx.heap.size, 3, none⟩ = false := by simp [World.frozen?, hq]
          have HN : Hid ((wr.setCell ⟨wx.heap.size, 3, none⟩ (.int .u8 (x / 16777216 % 256))).heap[wx.heap.size]? = some (.cells (nc x (3 + 1)) 102 (0, 0))) := by
            show _ = _
            rw [heap_setCell_self hq]; rfl
          have HB2 : Hid (Below wx.heap.size wx (wr.setCell ⟨wx.heap.size, 3, none⟩ (.int .u8 (x / 16777216 % 256)))) := HB1.out.setCell (by simp) _
          clear hq
          go_wp2
          go_roundw
          case rel => exact ⟨3 + 1, by go_num, by omega, HN.out, HB2.out⟩
          case measure => simp [intOf]
        · have HS : Hid (Bs wr (some ⟨wx.heap.size, 0, none⟩) 4 (by' 4 x)) := nc_bs hq (by omega) (heap_lt hq)
          have HW2 : Hid (WrP wr p B v s) := HW.out.below HB1.out
          have hB2 : B ≤ wr.heap.size := Nat.le_trans hB HB1.out.size
          clear hq
          go_wp2_with fail
          refine (wBytes_any p B 4 4 _ v (by' 4 x) s wr HW2.out hB2 HS.out (fun h => by simp at h) (by omega)).mono ?_
          rintro r w2 ⟨rfl, hD⟩
          have HDn : Hid (WrDone wx w2 p B v (wByt (by' 4 x) s)) := WrDone.trans (Fr.of_below HB1.out) (Lie.refl _ _) hD
          clear hD
          go_wp2
          go_end0
          exact ⟨rfl, HDn.out⟩

theorem not_fits (x n : Int) (h1 : 1 ≤ n) (h4 : n ≤ 4) (hw : ¬ (1 ≤ n ∧ n ≤ 4 ∧ 0 ≤ x ∧ x < 256 ^ n.toNat)) : x < 0 ∨ (0 ≤ x ∧ 256 ^ n.toNat ≤ x) := by
  by_cases h : x < 0
  · exact .inl h
  · by_cases h2 : x < 256 ^ n.toNat
    · exact absurd ⟨h1, h4, by omega, h2⟩ hw
    · exact .inr ⟨by omega, by omega⟩
set_option maxRecDepth 100000 in
theorem wNum_not (p B : Nat) (v : Value) (x n : Int) (s : St) (w : World) (h : WrP w p B v s) (hx : -9223372036854775808 ≤ x ∧ x ≤ 9223372036854775807) (hn : -9223372036854775808 ≤ n ∧ n ≤ 9223372036854775807) (hw : ¬ (1 ≤ n ∧ n ≤ 4 ∧ 0 ≤ x ∧ x < 256 ^ n.toNat)) :
    Calls Try.prog 37 #[.pointer (some ⟨p, 0, none⟩), .int .i64 x, .int .i64 n] w fun r w' => r = .returned (.tuple #[]) ∧ WrDone w w' p B v (fl 1 s) := by
  have HW : Hid (WrP w p B v s) := h
  obtain ⟨vo, vn, vc, rfl, hd, _⟩ := h
  have HD : Hid (Hd 81 w p vo vn vc s.2) := hd
  clear hd
  by_cases hn1 : 1 ≤ n ∧ n ≤ 4
  · have hd : decide (1 ≤ n ∧ n ≤ 4) = true := decide_eq_true hn1
    rcases not_fits x n hn1.1 hn1.2 hw with hneg | hbig
    · have d1 : decide (x < 0) = true := decide_eq_true hneg
      clear hw
      go_enter Try.func37, Try.ntmps37
      go_wp2_with fail
      refine (isWidth_any n w).mono ?_
      rintro r wx ⟨rfl, rfl⟩
      rw [hd]
      go_wp2_with fail
      refine (fail_any 81 p vn vc vo s.2 1 wx HD.out).mono ?_
      rintro r w1 ⟨rfl, hF⟩
      have HX : Hid (WrDone wx w1 p B (.slice vo vn vc) (fl 1 s)) := wr_failed HW.out hF
      clear hF
      go_wp2
      ((try simp only [Exit.inBlock, Exit.then]); refine bodyPost_ret (results_none rfl _ _ _) rfl ?_)
      exact ⟨rfl, HX.out⟩
    · have d1 : decide (x < 0) = false := decide_eq_false (by omega)
      clear hw
      obtain rfl | rfl | rfl | rfl : n = 1 ∨ n = 2 ∨ n = 3 ∨ n = 4 := by omega
      · have d2 : decide ((256 : Int) ≤ x) = true := decide_eq_true hbig.2
        go_enter Try.func37, Try.ntmps37
        go_wp2_with fail
        refine (isWidth_any 1 w).mono ?_
        rintro r wx ⟨rfl, rfl⟩
        rw [hd]
        go_wp2_with fail
        refine (fail_any 81 p vn vc vo s.2 1 wx HD.out).mono ?_
        rintro r w1 ⟨rfl, hF⟩
        have HX : Hid (WrDone wx w1 p B (.slice vo vn vc) (fl 1 s)) := wr_failed HW.out hF
        clear hF
        go_wp2
        ((try simp only [Exit.inBlock, Exit.then]); refine bodyPost_ret (results_none rfl _ _ _) rfl ?_)
        exact ⟨rfl, HX.out⟩
      · have d2 : decide ((65536 : Int) ≤ x) = true := decide_eq_true hbig.2
        go_enter Try.func37, Try.ntmps37
        go_wp2_with fail
        refine (isWidth_any 2 w).mono ?_
        rintro r wx ⟨rfl, rfl⟩
        rw [hd]
        go_wp2_with fail
        refine (fail_any 81 p vn vc vo s.2 1 wx HD.out).mono ?_
        rintro r w1 ⟨rfl, hF⟩
        have HX : Hid (WrDone wx w1 p B (.slice vo vn vc) (fl 1 s)) := wr_failed HW.out hF
        clear hF
        go_wp2
        ((try simp only [Exit.inBlock, Exit.then]); refine bodyPost_ret (results_none rfl _ _ _) rfl ?_)
        exact ⟨rfl, HX.out⟩
      · have d2 : decide ((16777216 : Int) ≤ x) = true := decide_eq_true hbig.2
        go_enter Try.func37, Try.ntmps37
        go_wp2_with fail
        refine (isWidth_any 3 w).mono ?_
        rintro r wx ⟨rfl, rfl⟩
        rw [hd]
        go_wp2_with fail
        refine (fail_any 81 p vn vc vo s.2 1 wx HD.out).mono ?_
        rintro r w1 ⟨rfl, hF⟩
        have HX : Hid (WrDone wx w1 p B (.slice vo vn vc) (fl 1 s)) := wr_failed HW.out hF
        clear hF
        go_wp2
        ((try simp only [Exit.inBlock, Exit.then]); refine bodyPost_ret (results_none rfl _ _ _) rfl ?_)
        exact ⟨rfl, HX.out⟩
      · have d2 : decide ((4294967296 : Int) ≤ x) = true := decide_eq_true hbig.2
        go_enter Try.func37, Try.ntmps37
        go_wp2_with fail
        refine (isWidth_any 4 w).mono ?_
        rintro r wx ⟨rfl, rfl⟩
        rw [hd]
        go_wp2_with fail
        refine (fail_any 81 p vn vc vo s.2 1 wx HD.out).mono ?_
        rintro r w1 ⟨rfl, hF⟩
        have HX : Hid (WrDone wx w1 p B (.slice vo vn vc) (fl 1 s)) := wr_failed HW.out hF
        clear hF
        go_wp2
        ((try simp only [Exit.inBlock, Exit.then]); refine bodyPost_ret (results_none rfl _ _ _) rfl ?_)
        exact ⟨rfl, HX.out⟩
  · have hd : decide (1 ≤ n ∧ n ≤ 4) = false := decide_eq_false hn1
    clear hw
    go_enter Try.func37, Try.ntmps37
    go_wp2_with fail
    refine (isWidth_any n w).mono ?_
    rintro r wx ⟨rfl, rfl⟩
    rw [hd]
    go_wp2_with fail
    refine (fail_any 81 p vn vc vo s.2 1 wx HD.out).mono ?_
    rintro r w1 ⟨rfl, hF⟩
    have HX : Hid (WrDone wx w1 p B (.slice vo vn vc) (fl 1 s)) := wr_failed HW.out hF
    clear hF
    go_wp2
    ((try simp only [Exit.inBlock, Exit.then]); refine bodyPost_ret (results_none rfl _ _ _) rfl ?_)
    exact ⟨rfl, HX.out⟩
theorem wNum_any (p B : Nat) (v : Value) (x n : Int) (s : St) (w : World) (h : WrP w p B v s) (hB : B ≤ w.heap.size) (hbd : s.1.length ≤ 10000000) (hx : -9223372036854775808 ≤ x ∧ x ≤ 9223372036854775807) (hn : -9223372036854775808 ≤ n ∧ n ≤ 9223372036854775807) :
    Calls Try.prog 37 #[.pointer (some ⟨p, 0, none⟩), .int .i64 x, .int .i64 n] w fun r w' => r = .returned (.tuple #[]) ∧ WrDone w w' p B v (wNum x n s) := by
  unfold wNum
  split
  · next hw => exact wNum_fits p B v x n s w h hB hbd hx hw
  · next hw => exact wNum_not p B v x n s w h hx hn hw

theorem sb_length (s : ByteArray) : (sb s).length = s.size := by unfold sb; simp
theorem sb_bytes (s : ByteArray) : Bytes (sb s) := fun x hx => by
  unfold sb at hx
  obtain ⟨b, _, rfl⟩ := List.mem_map.1 hx
  have := b.toNat_lt
  omega
/-- The bytes of a string, laid down: where they lie, and what else has turned. -/
theorem conv_any (w : World) (s : ByteArray) : ∃ c o, (convert 9 30 (.string s)).run Try.prog w = .ok (.slice (some ⟨w.heap.size, 0, none⟩) s.size c) (w.drew.alloc o) ∧ Bs (w.drew.alloc o) (some ⟨w.heap.size, 0, none⟩) s.size (sb s) := by
  refine ⟨_, _, run_bytes_of_string w 9 30 5 s Try.underlying9 Try.underlying30 Try.underlying5, sb_length s, (sb_bytes s).g, .inr ⟨w.heap.size, 0, rfl, by simp, fun i hi => ?_⟩⟩
  rw [sb_length] at hi
  have h1 : (w.drew.alloc (.cells (bytesRow s (grownCap w s.size 0 5)) 5 ((bytesRow s (grownCap w s.size 0 5)).size, (bytesRow s (grownCap w s.size 0 5)).size + 1))).heap[w.heap.size]? = some (.cells (bytesRow s (grownCap w s.size 0 5)) 5 ((bytesRow s (grownCap w s.size 0 5)).size, (bytesRow s (grownCap w s.size 0 5)).size + 1)) := heap_alloc_new w.drew _
  rw [Nat.zero_add, cell_of_row _ _ _ _ _ _ h1, Lz.g_lt _ _ (by rw [sb_length]; exact hi)]
  have h2 : i < s.data.size := hi
  simp [bytesRow, Array.getElem?_append, sb]
  rw [if_pos hi, Array.getElem?_eq_getElem h2]
  rfl

theorem fl_length (k : Int) (s : St) : (fl k s).1.length ≤ s.1.length := by unfold fl; split <;> simp
theorem wByt_length (b : List Int) (s : St) : (wByt b s).1.length ≤ s.1.length + b.length := by unfold wByt; split <;> simp
theorem wNum_length (x n : Int) (s : St) : (wNum x n s).1.length ≤ s.1.length + 4 := by
  unfold wNum
  split
  · next h => have := wByt_length (by' n.toNat x) s; rw [by_length] at this; omega
  · have := fl_length 1 s; omega

end Go.Proofs.Ytgmkldfjbjnkcaa

/- The walk of LinkMatchesReference. -/
import Derived.Test.YtgfldbllokbnaaaDoorLkSane
import Derived.Test.YtgfldbllokbnaaaDoorLkRefD
import Derived.Deep.RegionHeld3
import Derived.BigRegion
namespace Go.Proofs.YtgfldbllokbnaaaDoor
set_option linter.unusedVariables false
open Go.RowKit
attribute [local go_sem] Oper.semAt_some

abbrev Mx (W : World) (N N1 N2 : Nat) (a b c A B C : Int) (s D : ByteArray) (w' : World) : Prop :=
  ((w'.cell? ⟨N, 0, none⟩ = some (.int .i64 a) ∧ w'.cell? ⟨N, 1, none⟩ = some (.int .i64 b) ∧ w'.cell? ⟨N, 2, none⟩ = some (.int .i64 c) ∧ w'.cell? ⟨N, 3, none⟩ = some (.string s)) ∧ (w'.cell? ⟨N1, 0, none⟩ = some (.int .i64 A) ∧ w'.cell? ⟨N1, 1, none⟩ = some (.int .i64 B) ∧ w'.cell? ⟨N1, 2, none⟩ = some (.int .i64 C) ∧ w'.cell? ⟨N1, 3, none⟩ = some (.string D)) ∧ (w'.cell? ⟨N2, 0, none⟩ = some (.int .i64 A) ∧ w'.cell? ⟨N2, 1, none⟩ = some (.int .i64 B) ∧ w'.cell? ⟨N2, 2, none⟩ = some (.int .i64 C) ∧ w'.cell? ⟨N2, 3, none⟩ = some (.string D))) ∧ Below W.heap.size W w'
theorem Mx.al {W w1 : World} {N N1 N2 : Nat} {a b c A B C : Int} {s D : ByteArray} (h : Mx W N N1 N2 a b c A B C s D w1) (o : Obj) : Mx W N N1 N2 a b c A B C s D (w1.alloc o) :=
  ⟨⟨⟨cell_alloc h.1.1.1 o, cell_alloc h.1.1.2.1 o, cell_alloc h.1.1.2.2.1 o, cell_alloc h.1.1.2.2.2 o⟩, ⟨cell_alloc h.1.2.1.1 o, cell_alloc h.1.2.1.2.1 o, cell_alloc h.1.2.1.2.2.1 o, cell_alloc h.1.2.1.2.2.2 o⟩, cell_alloc h.1.2.2.1 o, cell_alloc h.1.2.2.2.1 o, cell_alloc h.1.2.2.2.2.1 o, cell_alloc h.1.2.2.2.2.2 o⟩, h.2.alloc h.2.size o⟩
def eS (a b c : Int) (s : ByteArray) : ByteArray := if okF a b c s.size then encS a b c s else ByteArray.empty
def eE (a b c : Int) (s : ByteArray) : Int := if okF a b c s.size then 0 else 40
def dA (s : ByteArray) : Int := if decC s then rdV s 0 2 else 0
def dB (s : ByteArray) : Int := if decC s then rdV s 2 2 else 0
def dC (s : ByteArray) : Int := if decC s then rdV s 4 1 else 0
def dS (s : ByteArray) : ByteArray := if decC s then s.extract 7 (s.size - 4) else ⟨#[]⟩
def dE (s : ByteArray) : Int := if decC s then 0 else 40
theorem encode_tot (a b c : Int) (s : ByteArray) (w : World) :
    Calls Tryd.prog 11 #[fv a b c s] w fun e w' => e = .returned (.tuple #[.string (eS a b c s), .int .i64 (eE a b c s)]) ∧ Below w.heap.size w w' := by
  unfold eS eE
  by_cases h : okF a b c s.size
  · rw [if_pos h, if_pos h]; exact encode_yes a b c s w h
  · rw [if_neg h, if_neg h]; exact encode_no a b c s w h
theorem refEncode_tot (a b c : Int) (s : ByteArray) (w : World) :
    Calls Tryd.prog 12 #[fv a b c s] w fun e w' => e = .returned (.tuple #[.string (eS a b c s), .int .i64 (eE a b c s)]) ∧ Below w.heap.size w w' := by
  unfold eS eE
  by_cases h : okF a b c s.size
  · rw [if_pos h, if_pos h]; exact refEncode_yes a b c s w h
  · rw [if_neg h, if_neg h]; exact refEncode_no a b c s w h
theorem decode_tot (s : ByteArray) (w : World) (ea : Addr) (E : Env w ea) (hs : s.size ≤ maxLen) :
    Calls Tryd.prog 13 #[.string s] w fun e w' => e = .returned (.tuple #[fv (dA s) (dB s) (dC s) (dS s), .int .i64 (dE s)]) ∧ Below w.heap.size w w' := by
  unfold dA dB dC dS dE
  by_cases h : decC s
  · simp only [if_pos h]; exact decode_ok s w ea E hs h
  · simp only [if_neg h]; exact decode_no s w ea E hs h
theorem refDecode_tot (s : ByteArray) (w : World) (hs : s.size ≤ maxLen) :
    Calls Tryd.prog 14 #[.string s] w fun e w' => e = .returned (.tuple #[fv (dA s) (dB s) (dC s) (dS s), .int .i64 (dE s)]) ∧ Below w.heap.size w w' := by
  unfold dA dB dC dS dE
  by_cases h : decC s
  · simp only [if_pos h]; exact refDecode_ok s w hs h
  · simp only [if_neg h]; exact refDecode_no s w hs h

set_option maxRecDepth 100000 in
set_option maxHeartbeats 1600000 in
theorem mr_cut_cut (a b c : Int) (s : ByteArray) (m T M : ByteArray) (mac : Int) (w : World) (a1 : -9223372036854775808 ≤ a) (a2 : a ≤ 9223372036854775807) (b1 : -9223372036854775808 ≤ b) (b2 : b ≤ 9223372036854775807) (c1 : -9223372036854775808 ≤ c) (c2 : c ≤ 9223372036854775807) (hs : s.size ≤ maxLen) (hm : m.size ≤ maxLen) (hk : 1100 < s.size) (hc : s.extract 0 1100 = T) (hj : 1100 < m.size) (hd : m.extract 0 1100 = M) (hM : M.size ≤ 1100) (ea : Addr) (E : Env w ea) :
    Calls Tryd.prog 3 #[fv a b c s, .string m, .int .i64 mac] w fun e w' => e = .returned (.bool true) ∧ Below w.heap.size w w' := by
  have k1 : (1100 : Int) ≤ (s.size : Int) := by omega
  have k2 : (1100 : Int) < (s.size : Int) := by omega
  have j1 : (1100 : Int) ≤ (m.size : Int) := by omega
  have j2 : (1100 : Int) < (m.size : Int) := by omega
  have hgl := cell_lt E
  simp only at hgl
  have hs2 := hs
  have hm2 := hm
  unfold maxLen at hs2 hm2
  have h1 := fun w => encode_tot a b c T w
  have h2 := fun w => refEncode_tot a b c T w
  have h3 := fun w E => decode_tot M w ea E (by unfold maxLen; omega)
  have h4 := fun w => refDecode_tot M w (by unfold maxLen; omega)
  have h5 := fun w => valid_any a b c T w
  have h6 := fun w => refValid_any a b c T w
  have h7 := fun w => to_any a b c T mac w
  have h8 := fun w => refTo_any a b c T mac w
  revert h1 h2 h3 h4 h5 h6 h7 h8
  generalize eS a b c T = X
  generalize eE a b c T = xe
  generalize dA M = A
  generalize dB M = B
  generalize dC M = C
  generalize dS M = D
  generalize dE M = de
  generalize decide (okF a b c T.size) = ok
  generalize toB a b mac = tb
  intro h1 h2 h3 h4 h5 h6 h7 h8
  have H1 := Lib.hid h1
  have H2 := Lib.hid h2
  have H3 := Lib.hid h3
  have H4 := Lib.hid h4
  have H5 := Lib.hid h5
  have H6 := Lib.hid h6
  have H7 := Lib.hid h7
  have H8 := Lib.hid h8
  clear h1 h2 h3 h4 h5 h6 h7 h8
  go_enter Tryd.func3, Tryd.ntmps3
  go_wp2_with fail
  have E0 : Env (w.alloc (fo a b c s)) ea := cell_alloc E _
  refine (sane_any _ ea E0).mono ?_
  rintro e w1 ⟨rfl, hb1⟩
  have hB1 : Below w.heap.size w w1 := ((Below.refl _ w).alloc (Nat.le_refl _) _).trans (hb1.mono (by simp))
  have hf1 := blk_below (blk_new w (fo a b c s)) hb1 (by simp)
  have E1 := E.stay hB1
  clear hb1 E0 E
  have x0 := (blk_cell (k := 0) hf1 rfl).1
  have x1 := (blk_cell (k := 1) hf1 rfl).1
  have x2 := (blk_cell (k := 2) hf1 rfl).1
  have x3 := (blk_cell (k := 3) hf1 rfl).1
  simp only [List.getElem_toArray, List.getElem_cons_zero, List.getElem_cons_succ] at x0 x1 x2 x3
  have z0 := blk_cell (k := 3) hf1 rfl
  simp only [List.getElem_toArray, List.getElem_cons_zero, List.getElem_cons_succ] at z0
  have hf2 : (w1.setCell ⟨w.heap.size, 3, none⟩ (.string T)).heap[w.heap.size]? = some (fo a b c T) := blk_setc (k := 3) hf1 _
  have hB2 : Below w.heap.size w (w1.setCell ⟨w.heap.size, 3, none⟩ (.string T)) := hB1.setCell (p := ⟨w.heap.size, 3, none⟩) (Nat.le_refl _) _
  have E2 : Env (w1.setCell ⟨w.heap.size, 3, none⟩ (.string T)) ea := by
    exact (World.cell?_setCell_far _ _ _ _ (by show w.heap.size ≠ _; simp only; omega)).trans E1
  go_wp2_with fail
  refine (H1.out _).mono ?_
  rintro e w3 ⟨rfl, hb3⟩
  have hB3 := hB2.trans (hb3.mono hB2.size)
  have hf3 := blk_below hf2 hb3 (blk_lt hf2)
  have E3 := E2.stay hb3
  clear hb3 hf2 E2 E1 x0 x1 x2 x3 z0 hf1
  have x0 := (blk_cell (k := 0) hf3 rfl).1
  have x1 := (blk_cell (k := 1) hf3 rfl).1
  have x2 := (blk_cell (k := 2) hf3 rfl).1
  have x3 := (blk_cell (k := 3) hf3 rfl).1
  simp only [List.getElem_toArray, List.getElem_cons_zero, List.getElem_cons_succ] at x0 x1 x2 x3
  go_wp2_with fail
  refine (H2.out _).mono ?_
  rintro e w4 ⟨rfl, hb4⟩
  have hB4 := hB3.trans (hb4.mono hB3.size)
  have hf4 := blk_below hf3 hb4 (blk_lt hf3)
  have E4 := E3.stay hb4
  clear hb4 hf3 E3 x0 x1 x2 x3
  go_wp2_with fail
  refine (H3.out _ E4).mono ?_
  rintro e w5 ⟨rfl, hb5⟩
  have hB5 := hB4.trans (hb5.mono hB4.size)
  have hf5 := blk_alloc (blk_below hf4 hb5 (blk_lt hf4)) (fo A B C D)
  have hg5 : (w5.alloc (fo A B C D)).heap[w5.heap.size]? = some (.cells #[.int .i64 A, .int .i64 B, .int .i64 C, .string D] 23 (0, 0)) := blk_new w5 (fo A B C D)
  have hB5' := hB5.alloc hB5.size (fo A B C D)
  clear hb5 hf4 E4
  go_wp2_with fail
  refine (H4.out _).mono ?_
  rintro e w6 ⟨rfl, hb6⟩
  have hB6 := (hB5'.trans (hb6.mono hB5'.size)).alloc ((hB5'.trans (hb6.mono hB5'.size)).size) (fo A B C D)
  have hf6 := blk_alloc (blk_below hf5 hb6 (blk_lt hf5)) (fo A B C D)
  have hg6 := blk_alloc (blk_below hg5 hb6 (blk_lt hg5)) (fo A B C D)
  have hk6 : (w6.alloc (fo A B C D)).heap[w6.heap.size]? = some (.cells #[.int .i64 A, .int .i64 B, .int .i64 C, .string D] 23 (0, 0)) := blk_new w6 (fo A B C D)
  clear hb6 hf5 hg5 hB5'
  go_wp2
  revert hB6 hf6 hg6 hk6
  generalize w6.alloc (fo A B C D) = w7
  intro hB6 hf6 hg6 hk6
  have x0 := (blk_cell (k := 0) hf6 rfl).1
  have x1 := (blk_cell (k := 1) hf6 rfl).1
  have x2 := (blk_cell (k := 2) hf6 rfl).1
  have x3 := (blk_cell (k := 3) hf6 rfl).1
  simp only [List.getElem_toArray, List.getElem_cons_zero, List.getElem_cons_succ] at x0 x1 x2 x3
  have y0 := (blk_cell (k := 0) hg6 rfl).1
  have y1 := (blk_cell (k := 1) hg6 rfl).1
  have y2 := (blk_cell (k := 2) hg6 rfl).1
  have y3 := (blk_cell (k := 3) hg6 rfl).1
  simp only [List.getElem_toArray, List.getElem_cons_zero, List.getElem_cons_succ] at y0 y1 y2 y3
  have z0 := (blk_cell (k := 0) hk6 rfl).1
  have z1 := (blk_cell (k := 1) hk6 rfl).1
  have z2 := (blk_cell (k := 2) hk6 rfl).1
  have z3 := (blk_cell (k := 3) hk6 rfl).1
  simp only [List.getElem_toArray, List.getElem_cons_zero, List.getElem_cons_succ] at z0 z1 z2 z3
  go_region_held3 (fun w' => ((w'.cell? ⟨w.heap.size, 0, none⟩ = some (.int .i64 a) ∧ w'.cell? ⟨w.heap.size, 1, none⟩ = some (.int .i64 b) ∧ w'.cell? ⟨w.heap.size, 2, none⟩ = some (.int .i64 c) ∧ w'.cell? ⟨w.heap.size, 3, none⟩ = some (.string T)) ∧ (w'.cell? ⟨w5.heap.size, 0, none⟩ = some (.int .i64 A) ∧ w'.cell? ⟨w5.heap.size, 1, none⟩ = some (.int .i64 B) ∧ w'.cell? ⟨w5.heap.size, 2, none⟩ = some (.int .i64 C) ∧ w'.cell? ⟨w5.heap.size, 3, none⟩ = some (.string D)) ∧ (w'.cell? ⟨w6.heap.size, 0, none⟩ = some (.int .i64 A) ∧ w'.cell? ⟨w6.heap.size, 1, none⟩ = some (.int .i64 B) ∧ w'.cell? ⟨w6.heap.size, 2, none⟩ = some (.int .i64 C) ∧ w'.cell? ⟨w6.heap.size, 3, none⟩ = some (.string D))) ∧ Below w.heap.size w w')
    (first | exact ⟨⟨⟨x0, x1, x2, x3⟩, ⟨y0, y1, y2, y3⟩, z0, z1, z2, z3⟩, hB6.drew⟩ | exact Mx.al (by assumption) _)
    (first
      | (go_at_call 15; refine (H5.out _).mono ?_; rintro e w8 ⟨rfl, rfl⟩)
      | (go_at_call 16; refine (H6.out _).mono ?_; rintro e w8 ⟨rfl, rfl⟩)
      | (go_at_call 17; refine (H7.out _).mono ?_; rintro e w8 ⟨rfl, rfl⟩)
      | (go_at_call 18; refine (H8.out _).mono ?_; rintro e w8 ⟨rfl, rfl⟩))
  have g1 := hB6.alloc hB6.size (fo a b c T)
  have g2 := g1.alloc g1.size (fo a b c T)
  have g3 := g2.alloc g2.size (fo a b c T)
  have g4 := (g3.alloc g3.size (fo a b c T)).drew
  go_wp2
  go_ret
  exact ⟨rfl, g4⟩

set_option maxRecDepth 100000 in
set_option maxHeartbeats 1600000 in
theorem mr_cut_un (a b c : Int) (s : ByteArray) (m T M : ByteArray) (mac : Int) (w : World) (a1 : -9223372036854775808 ≤ a) (a2 : a ≤ 9223372036854775807) (b1 : -9223372036854775808 ≤ b) (b2 : b ≤ 9223372036854775807) (c1 : -9223372036854775808 ≤ c) (c2 : c ≤ 9223372036854775807) (hs : s.size ≤ maxLen) (hm : m.size ≤ maxLen) (hk : 1100 < s.size) (hc : s.extract 0 1100 = T) (hj : m.size ≤ 1100) (hd : M = m) (hM : M.size ≤ 1100) (ea : Addr) (E : Env w ea) :
    Calls Tryd.prog 3 #[fv a b c s, .string m, .int .i64 mac] w fun e w' => e = .returned (.bool true) ∧ Below w.heap.size w w' := by
  have k1 : (1100 : Int) ≤ (s.size : Int) := by omega
  have k2 : (1100 : Int) < (s.size : Int) := by omega
  subst hd
  have j0 : (0 : Int) ≤ (M.size : Int) := by omega
  have j1 : (M.size : Int) ≤ 1100 := by omega
  have j2 : ((1100 : Int) < (M.size : Int)) = False := eq_false (by omega)
  have hgl := cell_lt E
  simp only at hgl
  have hs2 := hs
  have hm2 := hm
  unfold maxLen at hs2 hm2
  have h1 := fun w => encode_tot a b c T w
  have h2 := fun w => refEncode_tot a b c T w
  have h3 := fun w E => decode_tot M w ea E (by unfold maxLen; omega)
  have h4 := fun w => refDecode_tot M w (by unfold maxLen; omega)
  have h5 := fun w => valid_any a b c T w
  have h6 := fun w => refValid_any a b c T w
  have h7 := fun w => to_any a b c T mac w
  have h8 := fun w => refTo_any a b c T mac w
  revert h1 h2 h3 h4 h5 h6 h7 h8
  generalize eS a b c T = X
  generalize eE a b c T = xe
  generalize dA M = A
  generalize dB M = B
  generalize dC M = C
  generalize dS M = D
  generalize dE M = de
  generalize decide (okF a b c T.size) = ok
  generalize toB a b mac = tb
  intro h1 h2 h3 h4 h5 h6 h7 h8
  have H1 := Lib.hid h1
  have H2 := Lib.hid h2
  have H3 := Lib.hid h3
  have H4 := Lib.hid h4
  have H5 := Lib.hid h5
  have H6 := Lib.hid h6
  have H7 := Lib.hid h7
  have H8 := Lib.hid h8
  clear h1 h2 h3 h4 h5 h6 h7 h8
  go_enter Tryd.func3, Tryd.ntmps3
  go_wp2_with fail
  have E0 : Env (w.alloc (fo a b c s)) ea := cell_alloc E _
  refine (sane_any _ ea E0).mono ?_
  rintro e w1 ⟨rfl, hb1⟩
  have hB1 : Below w.heap.size w w1 := ((Below.refl _ w).alloc (Nat.le_refl _) _).trans (hb1.mono (by simp))
  have hf1 := blk_below (blk_new w (fo a b c s)) hb1 (by simp)
  have E1 := E.stay hB1
  clear hb1 E0 E
  have x0 := (blk_cell (k := 0) hf1 rfl).1
  have x1 := (blk_cell (k := 1) hf1 rfl).1
  have x2 := (blk_cell (k := 2) hf1 rfl).1
  have x3 := (blk_cell (k := 3) hf1 rfl).1
  simp only [List.getElem_toArray, List.getElem_cons_zero, List.getElem_cons_succ] at x0 x1 x2 x3
  have z0 := blk_cell (k := 3) hf1 rfl
  simp only [List.getElem_toArray, List.getElem_cons_zero, List.getElem_cons_succ] at z0
  have hf2 : (w1.setCell ⟨w.heap.size, 3, none⟩ (.string T)).heap[w.heap.size]? = some (fo a b c T) := blk_setc (k := 3) hf1 _
  have hB2 : Below w.heap.size w (w1.setCell ⟨w.heap.size, 3, none⟩ (.string T)) := hB1.setCell (p := ⟨w.heap.size, 3, none⟩) (Nat.le_refl _) _
  have E2 : Env (w1.setCell ⟨w.heap.size, 3, none⟩ (.string T)) ea := by
    exact (World.cell?_setCell_far _ _ _ _ (by show w.heap.size ≠ _; simp only; omega)).trans E1
  go_wp2_with fail
  refine (H1.out _).mono ?_
  rintro e w3 ⟨rfl, hb3⟩
  have hB3 := hB2.trans (hb3.mono hB2.size)
  have hf3 := blk_below hf2 hb3 (blk_lt hf2)
  have E3 := E2.stay hb3
  clear hb3 hf2 E2 E1 x0 x1 x2 x3 z0 hf1
  have x0 := (blk_cell (k := 0) hf3 rfl).1
  have x1 := (blk_cell (k := 1) hf3 rfl).1
  have x2 := (blk_cell (k := 2) hf3 rfl).1
  have x3 := (blk_cell (k := 3) hf3 rfl).1
  simp only [List.getElem_toArray, List.getElem_cons_zero, List.getElem_cons_succ] at x0 x1 x2 x3
  go_wp2_with fail
  refine (H2.out _).mono ?_
  rintro e w4 ⟨rfl, hb4⟩
  have hB4 := hB3.trans (hb4.mono hB3.size)
  have hf4 := blk_below hf3 hb4 (blk_lt hf3)
  have E4 := E3.stay hb4
  clear hb4 hf3 E3 x0 x1 x2 x3
  go_wp2_with fail
  refine (H3.out _ E4).mono ?_
  rintro e w5 ⟨rfl, hb5⟩
  have hB5 := hB4.trans (hb5.mono hB4.size)
  have hf5 := blk_alloc (blk_below hf4 hb5 (blk_lt hf4)) (fo A B C D)
  have hg5 : (w5.alloc (fo A B C D)).heap[w5.heap.size]? = some (.cells #[.int .i64 A, .int .i64 B, .int .i64 C, .string D] 23 (0, 0)) := blk_new w5 (fo A B C D)
  have hB5' := hB5.alloc hB5.size (fo A B C D)
  clear hb5 hf4 E4
  go_wp2_with fail
  refine (H4.out _).mono ?_
  rintro e w6 ⟨rfl, hb6⟩
  have hB6 := (hB5'.trans (hb6.mono hB5'.size)).alloc ((hB5'.trans (hb6.mono hB5'.size)).size) (fo A B C D)
  have hf6 := blk_alloc (blk_below hf5 hb6 (blk_lt hf5)) (fo A B C D)
  have hg6 := blk_alloc (blk_below hg5 hb6 (blk_lt hg5)) (fo A B C D)
  have hk6 : (w6.alloc (fo A B C D)).heap[w6.heap.size]? = some (.cells #[.int .i64 A, .int .i64 B, .int .i64 C, .string D] 23 (0, 0)) := blk_new w6 (fo A B C D)
  clear hb6 hf5 hg5 hB5'
  go_wp2
  revert hB6 hf6 hg6 hk6
  generalize w6.alloc (fo A B C D) = w7
  intro hB6 hf6 hg6 hk6
  have x0 := (blk_cell (k := 0) hf6 rfl).1
  have x1 := (blk_cell (k := 1) hf6 rfl).1
  have x2 := (blk_cell (k := 2) hf6 rfl).1
  have x3 := (blk_cell (k := 3) hf6 rfl).1
  simp only [List.getElem_toArray, List.getElem_cons_zero, List.getElem_cons_succ] at x0 x1 x2 x3
  have y0 := (blk_cell (k := 0) hg6 rfl).1
  have y1 := (blk_cell (k := 1) hg6 rfl).1
  have y2 := (blk_cell (k := 2) hg6 rfl).1
  have y3 := (blk_cell (k := 3) hg6 rfl).1
  simp only [List.getElem_toArray, List.getElem_cons_zero, List.getElem_cons_succ] at y0 y1 y2 y3
  have z0 := (blk_cell (k := 0) hk6 rfl).1
  have z1 := (blk_cell (k := 1) hk6 rfl).1
  have z2 := (blk_cell (k := 2) hk6 rfl).1
  have z3 := (blk_cell (k := 3) hk6 rfl).1
  simp only [List.getElem_toArray, List.getElem_cons_zero, List.getElem_cons_succ] at z0 z1 z2 z3
  go_region_held3 (fun w' => ((w'.cell? ⟨w.heap.size, 0, none⟩ = some (.int .i64 a) ∧ w'.cell? ⟨w.heap.size, 1, none⟩ = some (.int .i64 b) ∧ w'.cell? ⟨w.heap.size, 2, none⟩ = some (.int .i64 c) ∧ w'.cell? ⟨w.heap.size, 3, none⟩ = some (.string T)) ∧ (w'.cell? ⟨w5.heap.size, 0, none⟩ = some (.int .i64 A) ∧ w'.cell? ⟨w5.heap.size, 1, none⟩ = some (.int .i64 B) ∧ w'.cell? ⟨w5.heap.size, 2, none⟩ = some (.int .i64 C) ∧ w'.cell? ⟨w5.heap.size, 3, none⟩ = some (.string D)) ∧ (w'.cell? ⟨w6.heap.size, 0, none⟩ = some (.int .i64 A) ∧ w'.cell? ⟨w6.heap.size, 1, none⟩ = some (.int .i64 B) ∧ w'.cell? ⟨w6.heap.size, 2, none⟩ = some (.int .i64 C) ∧ w'.cell? ⟨w6.heap.size, 3, none⟩ = some (.string D))) ∧ Below w.heap.size w w')
    (first | exact ⟨⟨⟨x0, x1, x2, x3⟩, ⟨y0, y1, y2, y3⟩, z0, z1, z2, z3⟩, hB6.drew⟩ | exact Mx.al (by assumption) _)
    (first
      | (go_at_call 15; refine (H5.out _).mono ?_; rintro e w8 ⟨rfl, rfl⟩)
      | (go_at_call 16; refine (H6.out _).mono ?_; rintro e w8 ⟨rfl, rfl⟩)
      | (go_at_call 17; refine (H7.out _).mono ?_; rintro e w8 ⟨rfl, rfl⟩)
      | (go_at_call 18; refine (H8.out _).mono ?_; rintro e w8 ⟨rfl, rfl⟩))
  have g1 := hB6.alloc hB6.size (fo a b c T)
  have g2 := g1.alloc g1.size (fo a b c T)
  have g3 := g2.alloc g2.size (fo a b c T)
  have g4 := (g3.alloc g3.size (fo a b c T)).drew
  go_wp2
  go_ret
  exact ⟨rfl, g4⟩

set_option maxRecDepth 100000 in
set_option maxHeartbeats 1600000 in
theorem mr_un_cut (a b c : Int) (s : ByteArray) (m T M : ByteArray) (mac : Int) (w : World) (a1 : -9223372036854775808 ≤ a) (a2 : a ≤ 9223372036854775807) (b1 : -9223372036854775808 ≤ b) (b2 : b ≤ 9223372036854775807) (c1 : -9223372036854775808 ≤ c) (c2 : c ≤ 9223372036854775807) (hs : s.size ≤ maxLen) (hm : m.size ≤ maxLen) (hk : s.size ≤ 1100) (hc : T = s) (hj : 1100 < m.size) (hd : m.extract 0 1100 = M) (hM : M.size ≤ 1100) (ea : Addr) (E : Env w ea) :
    Calls Tryd.prog 3 #[fv a b c s, .string m, .int .i64 mac] w fun e w' => e = .returned (.bool true) ∧ Below w.heap.size w w' := by
  subst hc
  have k0 : (0 : Int) ≤ (T.size : Int) := by omega
  have k1 : (T.size : Int) ≤ 1100 := by omega
  have k2 : ((1100 : Int) < (T.size : Int)) = False := eq_false (by omega)
  have j1 : (1100 : Int) ≤ (m.size : Int) := by omega
  have j2 : (1100 : Int) < (m.size : Int) := by omega
  have hgl := cell_lt E
  simp only at hgl
  have hs2 := hs
  have hm2 := hm
  unfold maxLen at hs2 hm2
  have h1 := fun w => encode_tot a b c T w
  have h2 := fun w => refEncode_tot a b c T w
  have h3 := fun w E => decode_tot M w ea E (by unfold maxLen; omega)
  have h4 := fun w => refDecode_tot M w (by unfold maxLen; omega)
  have h5 := fun w => valid_any a b c T w
  have h6 := fun w => refValid_any a b c T w
  have h7 := fun w => to_any a b c T mac w
  have h8 := fun w => refTo_any a b c T mac w
  revert h1 h2 h3 h4 h5 h6 h7 h8
  generalize eS a b c T = X
  generalize eE a b c T = xe
  generalize dA M = A
  generalize dB M = B
  generalize dC M = C
  generalize dS M = D
  generalize dE M = de
  generalize decide (okF a b c T.size) = ok
  generalize toB a b mac = tb
  intro h1 h2 h3 h4 h5 h6 h7 h8
  have H1 := Lib.hid h1
  have H2 := Lib.hid h2
  have H3 := Lib.hid h3
  have H4 := Lib.hid h4
  have H5 := Lib.hid h5
  have H6 := Lib.hid h6
  have H7 := Lib.hid h7
  have H8 := Lib.hid h8
  clear h1 h2 h3 h4 h5 h6 h7 h8
  go_enter Tryd.func3, Tryd.ntmps3
  go_wp2_with fail
  have E0 : Env (w.alloc (fo a b c T)) ea := cell_alloc E _
  refine (sane_any _ ea E0).mono ?_
  rintro e w1 ⟨rfl, hb1⟩
  have hB1 : Below w.heap.size w w1 := ((Below.refl _ w).alloc (Nat.le_refl _) _).trans (hb1.mono (by simp))
  have hf1 := blk_below (blk_new w (fo a b c T)) hb1 (by simp)
  have E1 := E.stay hB1
  clear hb1 E0 E
  have x0 := (blk_cell (k := 0) hf1 rfl).1
  have x1 := (blk_cell (k := 1) hf1 rfl).1
  have x2 := (blk_cell (k := 2) hf1 rfl).1
  have x3 := (blk_cell (k := 3) hf1 rfl).1
  simp only [List.getElem_toArray, List.getElem_cons_zero, List.getElem_cons_succ] at x0 x1 x2 x3
  have z0 := blk_cell (k := 3) hf1 rfl
  simp only [List.getElem_toArray, List.getElem_cons_zero, List.getElem_cons_succ] at z0
  have hf2 : (w1.setCell ⟨w.heap.size, 3, none⟩ (.string T)).heap[w.heap.size]? = some (fo a b c T) := blk_setc (k := 3) hf1 _
  have hB2 : Below w.heap.size w (w1.setCell ⟨w.heap.size, 3, none⟩ (.string T)) := hB1.setCell (p := ⟨w.heap.size, 3, none⟩) (Nat.le_refl _) _
  have E2 : Env (w1.setCell ⟨w.heap.size, 3, none⟩ (.string T)) ea := by
    exact (World.cell?_setCell_far _ _ _ _ (by show w.heap.size ≠ _; simp only; omega)).trans E1
  go_wp2_with fail
  refine (H1.out _).mono ?_
  rintro e w3 ⟨rfl, hb3⟩
  have hB3 := hB2.trans (hb3.mono hB2.size)
  have hf3 := blk_below hf2 hb3 (blk_lt hf2)
  have E3 := E2.stay hb3
  clear hb3 hf2 E2 E1 x0 x1 x2 x3 z0 hf1
  have x0 := (blk_cell (k := 0) hf3 rfl).1
  have x1 := (blk_cell (k := 1) hf3 rfl).1
  have x2 := (blk_cell (k := 2) hf3 rfl).1
  have x3 := (blk_cell (k := 3) hf3 rfl).1
  simp only [List.getElem_toArray, List.getElem_cons_zero, List.getElem_cons_succ] at x0 x1 x2 x3
  go_wp2_with fail
  refine (H2.out _).mono ?_
  rintro e w4 ⟨rfl, hb4⟩
  have hB4 := hB3.trans (hb4.mono hB3.size)
  have hf4 := blk_below hf3 hb4 (blk_lt hf3)
  have E4 := E3.stay hb4
  clear hb4 hf3 E3 x0 x1 x2 x3
  go_wp2_with fail
  refine (H3.out _ E4).mono ?_
  rintro e w5 ⟨rfl, hb5⟩
  have hB5 := hB4.trans (hb5.mono hB4.size)
  have hf5 := blk_alloc (blk_below hf4 hb5 (blk_lt hf4)) (fo A B C D)
  have hg5 : (w5.alloc (fo A B C D)).heap[w5.heap.size]? = some (.cells #[.int .i64 A, .int .i64 B, .int .i64 C, .string D] 23 (0, 0)) := blk_new w5 (fo A B C D)
  have hB5' := hB5.alloc hB5.size (fo A B C D)
  clear hb5 hf4 E4
  go_wp2_with fail
  refine (H4.out _).mono ?_
  rintro e w6 ⟨rfl, hb6⟩
  have hB6 := (hB5'.trans (hb6.mono hB5'.size)).alloc ((hB5'.trans (hb6.mono hB5'.size)).size) (fo A B C D)
  have hf6 := blk_alloc (blk_below hf5 hb6 (blk_lt hf5)) (fo A B C D)
  have hg6 := blk_alloc (blk_below hg5 hb6 (blk_lt hg5)) (fo A B C D)
  have hk6 : (w6.alloc (fo A B C D)).heap[w6.heap.size]? = some (.cells #[.int .i64 A, .int .i64 B, .int .i64 C, .string D] 23 (0, 0)) := blk_new w6 (fo A B C D)
  clear hb6 hf5 hg5 hB5'
  go_wp2
  revert hB6 hf6 hg6 hk6
  generalize w6.alloc (fo A B C D) = w7
  intro hB6 hf6 hg6 hk6
  have x0 := (blk_cell (k := 0) hf6 rfl).1
  have x1 := (blk_cell (k := 1) hf6 rfl).1
  have x2 := (blk_cell (k := 2) hf6 rfl).1
  have x3 := (blk_cell (k := 3) hf6 rfl).1
  simp only [List.getElem_toArray, List.getElem_cons_zero, List.getElem_cons_succ] at x0 x1 x2 x3
  have y0 := (blk_cell (k := 0) hg6 rfl).1
  have y1 := (blk_cell (k := 1) hg6 rfl).1
  have y2 := (blk_cell (k := 2) hg6 rfl).1
  have y3 := (blk_cell (k := 3) hg6 rfl).1
  simp only [List.getElem_toArray, List.getElem_cons_zero, List.getElem_cons_succ] at y0 y1 y2 y3
  have z0 := (blk_cell (k := 0) hk6 rfl).1
  have z1 := (blk_cell (k := 1) hk6 rfl).1
  have z2 := (blk_cell (k := 2) hk6 rfl).1
  have z3 := (blk_cell (k := 3) hk6 rfl).1
  simp only [List.getElem_toArray, List.getElem_cons_zero, List.getElem_cons_succ] at z0 z1 z2 z3
  go_region_held3 (fun w' => ((w'.cell? ⟨w.heap.size, 0, none⟩ = some (.int .i64 a) ∧ w'.cell? ⟨w.heap.size, 1, none⟩ = some (.int .i64 b) ∧ w'.cell? ⟨w.heap.size, 2, none⟩ = some (.int .i64 c) ∧ w'.cell? ⟨w.heap.size, 3, none⟩ = some (.string T)) ∧ (w'.cell? ⟨w5.heap.size, 0, none⟩ = some (.int .i64 A) ∧ w'.cell? ⟨w5.heap.size, 1, none⟩ = some (.int .i64 B) ∧ w'.cell? ⟨w5.heap.size, 2, none⟩ = some (.int .i64 C) ∧ w'.cell? ⟨w5.heap.size, 3, none⟩ = some (.string D)) ∧ (w'.cell? ⟨w6.heap.size, 0, none⟩ = some (.int .i64 A) ∧ w'.cell? ⟨w6.heap.size, 1, none⟩ = some (.int .i64 B) ∧ w'.cell? ⟨w6.heap.size, 2, none⟩ = some (.int .i64 C) ∧ w'.cell? ⟨w6.heap.size, 3, none⟩ = some (.string D))) ∧ Below w.heap.size w w')
    (first | exact ⟨⟨⟨x0, x1, x2, x3⟩, ⟨y0, y1, y2, y3⟩, z0, z1, z2, z3⟩, hB6.drew⟩ | exact Mx.al (by assumption) _)
    (first
      | (go_at_call 15; refine (H5.out _).mono ?_; rintro e w8 ⟨rfl, rfl⟩)
      | (go_at_call 16; refine (H6.out _).mono ?_; rintro e w8 ⟨rfl, rfl⟩)
      | (go_at_call 17; refine (H7.out _).mono ?_; rintro e w8 ⟨rfl, rfl⟩)
      | (go_at_call 18; refine (H8.out _).mono ?_; rintro e w8 ⟨rfl, rfl⟩))
  have g1 := hB6.alloc hB6.size (fo a b c T)
  have g2 := g1.alloc g1.size (fo a b c T)
  have g3 := g2.alloc g2.size (fo a b c T)
  have g4 := (g3.alloc g3.size (fo a b c T)).drew
  go_wp2
  go_ret
  exact ⟨rfl, g4⟩

set_option maxRecDepth 100000 in
set_option maxHeartbeats 1600000 in
theorem mr_un_un (a b c : Int) (s : ByteArray) (m T M : ByteArray) (mac : Int) (w : World) (a1 : -9223372036854775808 ≤ a) (a2 : a ≤ 9223372036854775807) (b1 : -9223372036854775808 ≤ b) (b2 : b ≤ 9223372036854775807) (c1 : -9223372036854775808 ≤ c) (c2 : c ≤ 9223372036854775807) (hs : s.size ≤ maxLen) (hm : m.size ≤ maxLen) (hk : s.size ≤ 1100) (hc : T = s) (hj : m.size ≤ 1100) (hd : M = m) (hM : M.size ≤ 1100) (ea : Addr) (E : Env w ea) :
    Calls Tryd.prog 3 #[fv a b c s, .string m, .int .i64 mac] w fun e w' => e = .returned (.bool true) ∧ Below w.heap.size w w' := by
  subst hc
  have k0 : (0 : Int) ≤ (T.size : Int) := by omega
  have k1 : (T.size : Int) ≤ 1100 := by omega
  have k2 : ((1100 : Int) < (T.size : Int)) = False := eq_false (by omega)
  subst hd
  have j0 : (0 : Int) ≤ (M.size : Int) := by omega
  have j1 : (M.size : Int) ≤ 1100 := by omega
  have j2 : ((1100 : Int) < (M.size : Int)) = False := eq_false (by omega)
  have hgl := cell_lt E
  simp only at hgl
  have hs2 := hs
  have hm2 := hm
  unfold maxLen at hs2 hm2
  have h1 := fun w => encode_tot a b c T w
  have h2 := fun w => refEncode_tot a b c T w
  have h3 := fun w E => decode_tot M w ea E (by unfold maxLen; omega)
  have h4 := fun w => refDecode_tot M w (by unfold maxLen; omega)
  have h5 := fun w => valid_any a b c T w
  have h6 := fun w => refValid_any a b c T w
  have h7 := fun w => to_any a b c T mac w
  have h8 := fun w => refTo_any a b c T mac w
  revert h1 h2 h3 h4 h5 h6 h7 h8
  generalize eS a b c T = X
  generalize eE a b c T = xe
  generalize dA M = A
  generalize dB M = B
  generalize dC M = C
  generalize dS M = D
  generalize dE M = de
  generalize decide (okF a b c T.size) = ok
  generalize toB a b mac = tb
  intro h1 h2 h3 h4 h5 h6 h7 h8
  have H1 := Lib.hid h1
  have H2 := Lib.hid h2
  have H3 := Lib.hid h3
  have H4 := Lib.hid h4
  have H5 := Lib.hid h5
  have H6 := Lib.hid h6
  have H7 := Lib.hid h7
  have H8 := Lib.hid h8
  clear h1 h2 h3 h4 h5 h6 h7 h8
  go_enter Tryd.func3, Tryd.ntmps3
  go_wp2_with fail
  have E0 : Env (w.alloc (fo a b c T)) ea := cell_alloc E _
  refine (sane_any _ ea E0).mono ?_
  rintro e w1 ⟨rfl, hb1⟩
  have hB1 : Below w.heap.size w w1 := ((Below.refl _ w).alloc (Nat.le_refl _) _).trans (hb1.mono (by simp))
  have hf1 := blk_below (blk_new w (fo a b c T)) hb1 (by simp)
  have E1 := E.stay hB1
  clear hb1 E0 E
  have x0 := (blk_cell (k := 0) hf1 rfl).1
  have x1 := (blk_cell (k := 1) hf1 rfl).1
  have x2 := (blk_cell (k := 2) hf1 rfl).1
  have x3 := (blk_cell (k := 3) hf1 rfl).1
  simp only [List.getElem_toArray, List.getElem_cons_zero, List.getElem_cons_succ] at x0 x1 x2 x3
  have z0 := blk_cell (k := 3) hf1 rfl
  simp only [List.getElem_toArray, List.getElem_cons_zero, List.getElem_cons_succ] at z0
  have hf2 : (w1.setCell ⟨w.heap.size, 3, none⟩ (.string T)).heap[w.heap.size]? = some (fo a b c T) := blk_setc (k := 3) hf1 _
  have hB2 : Below w.heap.size w (w1.setCell ⟨w.heap.size, 3, none⟩ (.string T)) := hB1.setCell (p := ⟨w.heap.size, 3, none⟩) (Nat.le_refl _) _
  have E2 : Env (w1.setCell ⟨w.heap.size, 3, none⟩ (.string T)) ea := by
    exact (World.cell?_setCell_far _ _ _ _ (by show w.heap.size ≠ _; simp only; omega)).trans E1
  go_wp2_with fail
  refine (H1.out _).mono ?_
  rintro e w3 ⟨rfl, hb3⟩
  have hB3 := hB2.trans (hb3.mono hB2.size)
  have hf3 := blk_below hf2 hb3 (blk_lt hf2)
  have E3 := E2.stay hb3
  clear hb3 hf2 E2 E1 x0 x1 x2 x3 z0 hf1
  have x0 := (blk_cell (k := 0) hf3 rfl).1
  have x1 := (blk_cell (k := 1) hf3 rfl).1
  have x2 := (blk_cell (k := 2) hf3 rfl).1
  have x3 := (blk_cell (k := 3) hf3 rfl).1
  simp only [List.getElem_toArray, List.getElem_cons_zero, List.getElem_cons_succ] at x0 x1 x2 x3
  go_wp2_with fail
  refine (H2.out _).mono ?_
  rintro e w4 ⟨rfl, hb4⟩
  have hB4 := hB3.trans (hb4.mono hB3.size)
  have hf4 := blk_below hf3 hb4 (blk_lt hf3)
  have E4 := E3.stay hb4
  clear hb4 hf3 E3 x0 x1 x2 x3
  go_wp2_with fail
  refine (H3.out _ E4).mono ?_
  rintro e w5 ⟨rfl, hb5⟩
  have hB5 := hB4.trans (hb5.mono hB4.size)
  have hf5 := blk_alloc (blk_below hf4 hb5 (blk_lt hf4)) (fo A B C D)
  have hg5 : (w5.alloc (fo A B C D)).heap[w5.heap.size]? = some (.cells #[.int .i64 A, .int .i64 B, .int .i64 C, .string D] 23 (0, 0)) := blk_new w5 (fo A B C D)
  have hB5' := hB5.alloc hB5.size (fo A B C D)
  clear hb5 hf4 E4
  go_wp2_with fail
  refine (H4.out _).mono ?_
  rintro e w6 ⟨rfl, hb6⟩
  have hB6 := (hB5'.trans (hb6.mono hB5'.size)).alloc ((hB5'.trans (hb6.mono hB5'.size)).size) (fo A B C D)
  have hf6 := blk_alloc (blk_below hf5 hb6 (blk_lt hf5)) (fo A B C D)
  have hg6 := blk_alloc (blk_below hg5 hb6 (blk_lt hg5)) (fo A B C D)
  have hk6 : (w6.alloc (fo A B C D)).heap[w6.heap.size]? = some (.cells #[.int .i64 A, .int .i64 B, .int .i64 C, .string D] 23 (0, 0)) := blk_new w6 (fo A B C D)
  clear hb6 hf5 hg5 hB5'
  go_wp2
  revert hB6 hf6 hg6 hk6
  generalize w6.alloc (fo A B C D) = w7
  intro hB6 hf6 hg6 hk6
  have x0 := (blk_cell (k := 0) hf6 rfl).1
  have x1 := (blk_cell (k := 1) hf6 rfl).1
  have x2 := (blk_cell (k := 2) hf6 rfl).1
  have x3 := (blk_cell (k := 3) hf6 rfl).1
  simp only [List.getElem_toArray, List.getElem_cons_zero, List.getElem_cons_succ] at x0 x1 x2 x3
  have y0 := (blk_cell (k := 0) hg6 rfl).1
  have y1 := (blk_cell (k := 1) hg6 rfl).1
  have y2 := (blk_cell (k := 2) hg6 rfl).1
  have y3 := (blk_cell (k := 3) hg6 rfl).1
  simp only [List.getElem_toArray, List.getElem_cons_zero, List.getElem_cons_succ] at y0 y1 y2 y3
  have z0 := (blk_cell (k := 0) hk6 rfl).1
  have z1 := (blk_cell (k := 1) hk6 rfl).1
  have z2 := (blk_cell (k := 2) hk6 rfl).1
  have z3 := (blk_cell (k := 3) hk6 rfl).1
  simp only [List.getElem_toArray, List.getElem_cons_zero, List.getElem_cons_succ] at z0 z1 z2 z3
  go_region_held3 (fun w' => ((w'.cell? ⟨w.heap.size, 0, none⟩ = some (.int .i64 a) ∧ w'.cell? ⟨w.heap.size, 1, none⟩ = some (.int .i64 b) ∧ w'.cell? ⟨w.heap.size, 2, none⟩ = some (.int .i64 c) ∧ w'.cell? ⟨w.heap.size, 3, none⟩ = some (.string T)) ∧ (w'.cell? ⟨w5.heap.size, 0, none⟩ = some (.int .i64 A) ∧ w'.cell? ⟨w5.heap.size, 1, none⟩ = some (.int .i64 B) ∧ w'.cell? ⟨w5.heap.size, 2, none⟩ = some (.int .i64 C) ∧ w'.cell? ⟨w5.heap.size, 3, none⟩ = some (.string D)) ∧ (w'.cell? ⟨w6.heap.size, 0, none⟩ = some (.int .i64 A) ∧ w'.cell? ⟨w6.heap.size, 1, none⟩ = some (.int .i64 B) ∧ w'.cell? ⟨w6.heap.size, 2, none⟩ = some (.int .i64 C) ∧ w'.cell? ⟨w6.heap.size, 3, none⟩ = some (.string D))) ∧ Below w.heap.size w w')
    (first | exact ⟨⟨⟨x0, x1, x2, x3⟩, ⟨y0, y1, y2, y3⟩, z0, z1, z2, z3⟩, hB6.drew⟩ | exact Mx.al (by assumption) _)
    (first
      | (go_at_call 15; refine (H5.out _).mono ?_; rintro e w8 ⟨rfl, rfl⟩)
      | (go_at_call 16; refine (H6.out _).mono ?_; rintro e w8 ⟨rfl, rfl⟩)
      | (go_at_call 17; refine (H7.out _).mono ?_; rintro e w8 ⟨rfl, rfl⟩)
      | (go_at_call 18; refine (H8.out _).mono ?_; rintro e w8 ⟨rfl, rfl⟩))
  have g1 := hB6.alloc hB6.size (fo a b c T)
  have g2 := g1.alloc g1.size (fo a b c T)
  have g3 := g2.alloc g2.size (fo a b c T)
  have g4 := (g3.alloc g3.size (fo a b c T)).drew
  go_wp2
  go_ret
  exact ⟨rfl, g4⟩

theorem walk_LinkMatchesReference (a b c : Int) (s m : ByteArray) (mac : Int) (w : World) (a1 : -9223372036854775808 ≤ a) (a2 : a ≤ 9223372036854775807) (b1 : -9223372036854775808 ≤ b) (b2 : b ≤ 9223372036854775807) (c1 : -9223372036854775808 ≤ c) (c2 : c ≤ 9223372036854775807) (hs : s.size ≤ maxLen) (hm : m.size ≤ maxLen) (E : ∃ ea, Env w ea) :
    Calls Tryd.prog 3 #[fv a b c s, .string m, .int .i64 mac] w fun e w' => e = .returned (.bool true) ∧ Below w.heap.size w w' := by
  obtain ⟨ea, E⟩ := E
  by_cases hk : 1100 < s.size
  · by_cases hj : 1100 < m.size
    · exact mr_cut_cut a b c s m _ _ mac w a1 a2 b1 b2 c1 c2 hs hm hk rfl hj rfl (by rw [ByteArray.size_extract]; omega) ea E
    · exact mr_cut_un a b c s m _ m mac w a1 a2 b1 b2 c1 c2 hs hm hk rfl (by omega) rfl (by omega) ea E
  · by_cases hj : 1100 < m.size
    · exact mr_un_cut a b c s m s _ mac w a1 a2 b1 b2 c1 c2 hs hm (by omega) rfl hj rfl (by rw [ByteArray.size_extract]; omega) ea E
    · exact mr_un_un a b c s m s m mac w a1 a2 b1 b2 c1 c2 hs hm (by omega) rfl (by omega) rfl (by omega) ea E
end Go.Proofs.YtgfldbllokbnaaaDoor

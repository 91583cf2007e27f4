/- The walk of LinkDelivery. -/
import Derived.Test.YtgfldbllokbnaaaDoorLkSane
import Derived.Test.YtgfldbllokbnaaaDoorLkLf
import Derived.Deep.RegionHeld3
import Derived.BigRegion
namespace Go.Proofs.YtgfldbllokbnaaaDoor
set_option linter.unusedVariables false
open Go.RowKit
attribute [local go_sem] Oper.semAt_some

set_option maxRecDepth 100000 in
set_option maxHeartbeats 1600000 in
theorem dl_tt (a b c : Int) (s : ByteArray) (p q : Int) (w : World) (a1 : -9223372036854775808 ≤ a) (a2 : a ≤ 9223372036854775807) (b1 : -9223372036854775808 ≤ b) (b2 : b ≤ 9223372036854775807) (c1 : -9223372036854775808 ≤ c) (c2 : c ≤ 9223372036854775807) (hs : s.size ≤ maxLen) (p1 : -9223372036854775808 ≤ p) (p2 : p ≤ 9223372036854775807) (q1 : -9223372036854775808 ≤ q) (q2 : q ≤ 9223372036854775807) (e1 : 1 + pickZ p 65534 = 1 + pickZ q 65534) (e2 : 1 + pickZ q 65534 = 1 + pickZ b 65534) (ea : Addr) (E : Env w ea) :
    Calls Tryd.prog 9 #[fv a b c s, .int .i64 p, .int .i64 q] w fun e w' => e = .returned (.bool true) ∧ Below w.heap.size w w' := by
  have H1 := Lib.hid e1
  have H2 := Lib.hid e2
  clear e1 e2
  go_enter Tryd.func9, Tryd.ntmps9
  go_wp2_with fail
  have E0 : Env (w.alloc (fo a b c s)) ea := cell_alloc E _
  refine (sane_any _ ea E0).mono ?_
  rintro e w1 ⟨rfl, hb1⟩
  have hB1 : Below w.heap.size w w1 := ((Below.refl _ w).alloc (Nat.le_refl _) _).trans (hb1.mono (by simp))
  have hf1 := blk_below (blk_new w (fo a b c s)) hb1 (by simp)
  have E1 := E.stay hB1
  clear hb1 E0 E
  have x0 := (blk_cell (k := 0) hf1 rfl).1
  have x1 := (blk_cell (k := 1) hf1 rfl).1
  have x2 := (blk_cell (k := 2) hf1 rfl).1
  have x3 := (blk_cell (k := 3) hf1 rfl).1
  simp only [List.getElem_toArray, List.getElem_cons_zero, List.getElem_cons_succ] at x0 x1 x2 x3
  go_wp2_with fail
  refine (frame_law a b c s _ a1 a2 b1 b2 c1 c2 hs).mono ?_
  rintro e w2 ⟨rfl, hb2⟩
  have hB2 := hB1.trans (hb2.mono hB1.size)
  have E2 := E1.stay hb2
  have hok := okF_pick a b c s
  clear hb2 E1 x0 x1 x2 x3 hf1
  revert hok H2
  generalize 1 + pickZ a 65535 = A
  generalize 1 + pickZ b 65534 = B
  generalize 1 + pickZ c 2 = C
  generalize cutK s = T
  intro H2 hok
  have hT : T.size ≤ 1024 := hok.2.2.2.2.2
  have hp := pickZ_bd p 65534 (by decide)
  have hq := pickZ_bd q 65534 (by decide)
  have wp1 : IntKind.i64.wrap (1 + pickZ p 65534) = 1 + pickZ p 65534 := wraps_i64 _ (by omega) (by omega)
  have wq1 : IntKind.i64.wrap (1 + pickZ q 65534) = 1 + pickZ q 65534 := wraps_i64 _ (by omega) (by omega)
  go_wp2_with fail
  refine (pick_any _ _ _ p1 p2 (by decide) (by decide)).mono ?_
  rintro e w' ⟨rfl, rfl⟩
  go_wp2_with fail
  refine (pick_any _ _ _ q1 q2 (by decide) (by decide)).mono ?_
  rintro e w' ⟨rfl, rfl⟩
  have hP1 : 1 ≤ 1 + pickZ p 65534 := by omega
  have hP2 : 1 + pickZ p 65534 ≤ 65534 := by omega
  go_wp2_with fail
  clear hp hq wp1 wq1
  revert H1 H2 hP1 hP2
  generalize 1 + pickZ p 65534 = P
  generalize 1 + pickZ q 65534 = Q
  intro H1 H2 hP1 hP2
  have hok2 := hok.2.2.1
  have Hv : Hid (toB P B Q = false ∧ toB P B B = false ∧ toB 65535 B Q = false ∧ (P == Q) = true ∧ (Q != B) = false) := by
    have e1 := H1.out
    have e2 := H2.out
    refine ⟨?_, ?_, ?_, ?_, ?_⟩
    · unfold toB; simp [e2]
    · unfold toB; simp
    · unfold toB; simp [e2]
    · simp [e1]
    · simp [e2]
  clear H1 H2
  have hN4 : (w2.alloc (fo P B C T)).heap[w2.heap.size]? = some (.cells #[.int .i64 P, .int .i64 B, .int .i64 C, .string T] 23 (0, 0)) := blk_new w2 (fo P B C T)
  have hB4 := hB2.alloc hB2.size (fo P B C T)
  refine (to_any _ _ _ _ _ _).mono ?_
  rintro e w4 ⟨rfl, hw4⟩
  rw [Hv.out.1]
  have hN5 := (congrArg (fun W : World => W.heap[w2.heap.size]?) hw4).trans (blk_alloc hN4 _)
  (try simp only at hN5)
  have hB5 : Below w.heap.size w w4 := by rw [hw4]; exact hB4.alloc hB4.size _
  clear hw4 hN4 hB4
  have x0 := (blk_cell (k := 0) hN5 rfl).1
  have x1 := (blk_cell (k := 1) hN5 rfl).1
  have x2 := (blk_cell (k := 2) hN5 rfl).1
  have x3 := (blk_cell (k := 3) hN5 rfl).1
  simp only [List.getElem_toArray, List.getElem_cons_zero, List.getElem_cons_succ] at x0 x1 x2 x3
  go_wp2_with fail
  refine (to_any _ _ _ _ _ _).mono ?_
  rintro e w5 ⟨rfl, hw5⟩
  rw [Hv.out.2.1]
  have hN6 := (congrArg (fun W : World => W.heap[w2.heap.size]?) hw5).trans (blk_alloc hN5 _)
  (try simp only at hN6)
  have hB6 : Below w.heap.size w w5 := by rw [hw5]; exact hB5.alloc hB5.size _
  clear hw5 hN5 hB5 x0 x1 x2 x3
  have hs6 := blk_cell (k := 0) hN6 rfl
  have hN7 : (w5.setCell ⟨w2.heap.size, 0, none⟩ (.int .i64 65535)).heap[w2.heap.size]? = some (fo 65535 B C T) := blk_setc (k := 0) hN6 _
  have hB7 : Below w.heap.size w (w5.setCell ⟨w2.heap.size, 0, none⟩ (.int .i64 65535)) := hB6.setCell (p := ⟨w2.heap.size, 0, none⟩) hB2.size _
  simp only [List.getElem_toArray, List.getElem_cons_zero] at hs6
  go_wp2
  revert hN7 hB7
  generalize hW6 : w5.setCell ⟨w2.heap.size, 0, none⟩ (.int .i64 65535) = w6
  intro hN7 hB7
  clear hs6 hN6 hB6
  have x0 := (blk_cell (k := 0) hN7 rfl).1
  have x1 := (blk_cell (k := 1) hN7 rfl).1
  have x2 := (blk_cell (k := 2) hN7 rfl).1
  have x3 := (blk_cell (k := 3) hN7 rfl).1
  simp only [List.getElem_toArray, List.getElem_cons_zero, List.getElem_cons_succ] at x0 x1 x2 x3
  have i1 := Hv.out.2.2.2.1
  have i2 := Hv.out.2.2.2.2
  clear hW6
  go_region_held3 (fun w' => w'.cell? ⟨w2.heap.size, 0, none⟩ = some (.int .i64 65535) ∧ w'.cell? ⟨w2.heap.size, 1, none⟩ = some (.int .i64 B) ∧ w'.cell? ⟨w2.heap.size, 2, none⟩ = some (.int .i64 C) ∧ w'.cell? ⟨w2.heap.size, 3, none⟩ = some (.string T))
    (first | exact ⟨x0, x1, x2, x3⟩ | exact ⟨cell_alloc x0 _, cell_alloc x1 _, cell_alloc x2 _, cell_alloc x3 _⟩)
    ((go_at_call 17; refine (to_any _ _ _ _ _ _).mono ?_; rintro e w' ⟨rfl, rfl⟩; rw [Hv.out.2.2.1]))
  have hB8 : Below w.heap.size w (w6.alloc (fo 65535 B C T)).drew := (hB7.alloc hB7.size _).drew
  go_wp2
  go_ret
  exact ⟨rfl, hB8⟩

set_option maxRecDepth 100000 in
set_option maxHeartbeats 1600000 in
theorem dl_tf (a b c : Int) (s : ByteArray) (p q : Int) (w : World) (a1 : -9223372036854775808 ≤ a) (a2 : a ≤ 9223372036854775807) (b1 : -9223372036854775808 ≤ b) (b2 : b ≤ 9223372036854775807) (c1 : -9223372036854775808 ≤ c) (c2 : c ≤ 9223372036854775807) (hs : s.size ≤ maxLen) (p1 : -9223372036854775808 ≤ p) (p2 : p ≤ 9223372036854775807) (q1 : -9223372036854775808 ≤ q) (q2 : q ≤ 9223372036854775807) (e1 : 1 + pickZ p 65534 = 1 + pickZ q 65534) (e2 : ¬ 1 + pickZ q 65534 = 1 + pickZ b 65534) (ea : Addr) (E : Env w ea) :
    Calls Tryd.prog 9 #[fv a b c s, .int .i64 p, .int .i64 q] w fun e w' => e = .returned (.bool true) ∧ Below w.heap.size w w' := by
  have H1 := Lib.hid e1
  have H2 := Lib.hid e2
  clear e1 e2
  go_enter Tryd.func9, Tryd.ntmps9
  go_wp2_with fail
  have E0 : Env (w.alloc (fo a b c s)) ea := cell_alloc E _
  refine (sane_any _ ea E0).mono ?_
  rintro e w1 ⟨rfl, hb1⟩
  have hB1 : Below w.heap.size w w1 := ((Below.refl _ w).alloc (Nat.le_refl _) _).trans (hb1.mono (by simp))
  have hf1 := blk_below (blk_new w (fo a b c s)) hb1 (by simp)
  have E1 := E.stay hB1
  clear hb1 E0 E
  have x0 := (blk_cell (k := 0) hf1 rfl).1
  have x1 := (blk_cell (k := 1) hf1 rfl).1
  have x2 := (blk_cell (k := 2) hf1 rfl).1
  have x3 := (blk_cell (k := 3) hf1 rfl).1
  simp only [List.getElem_toArray, List.getElem_cons_zero, List.getElem_cons_succ] at x0 x1 x2 x3
  go_wp2_with fail
  refine (frame_law a b c s _ a1 a2 b1 b2 c1 c2 hs).mono ?_
  rintro e w2 ⟨rfl, hb2⟩
  have hB2 := hB1.trans (hb2.mono hB1.size)
  have E2 := E1.stay hb2
  have hok := okF_pick a b c s
  clear hb2 E1 x0 x1 x2 x3 hf1
  revert hok H2
  generalize 1 + pickZ a 65535 = A
  generalize 1 + pickZ b 65534 = B
  generalize 1 + pickZ c 2 = C
  generalize cutK s = T
  intro H2 hok
  have hT : T.size ≤ 1024 := hok.2.2.2.2.2
  have hp := pickZ_bd p 65534 (by decide)
  have hq := pickZ_bd q 65534 (by decide)
  have wp1 : IntKind.i64.wrap (1 + pickZ p 65534) = 1 + pickZ p 65534 := wraps_i64 _ (by omega) (by omega)
  have wq1 : IntKind.i64.wrap (1 + pickZ q 65534) = 1 + pickZ q 65534 := wraps_i64 _ (by omega) (by omega)
  go_wp2_with fail
  refine (pick_any _ _ _ p1 p2 (by decide) (by decide)).mono ?_
  rintro e w' ⟨rfl, rfl⟩
  go_wp2_with fail
  refine (pick_any _ _ _ q1 q2 (by decide) (by decide)).mono ?_
  rintro e w' ⟨rfl, rfl⟩
  have hP1 : 1 ≤ 1 + pickZ p 65534 := by omega
  have hP2 : 1 + pickZ p 65534 ≤ 65534 := by omega
  go_wp2_with fail
  clear hp hq wp1 wq1
  revert H1 H2 hP1 hP2
  generalize 1 + pickZ p 65534 = P
  generalize 1 + pickZ q 65534 = Q
  intro H1 H2 hP1 hP2
  have hok2 := hok.2.2.1
  have Hv : Hid (toB P B Q = true ∧ toB P B B = false ∧ toB 65535 B Q = true ∧ (P == Q) = true ∧ (Q != B) = true) := by
    have e1 := H1.out
    have e2 := H2.out
    refine ⟨?_, ?_, ?_, ?_, ?_⟩
    · unfold toB; exact decide_eq_true ⟨.inl e1, fun h => e2 h.symm⟩
    · unfold toB; simp
    · unfold toB; exact decide_eq_true ⟨.inr rfl, fun h => e2 h.symm⟩
    · simp [e1]
    · simp [e2]
  clear H1 H2
  have hN4 : (w2.alloc (fo P B C T)).heap[w2.heap.size]? = some (.cells #[.int .i64 P, .int .i64 B, .int .i64 C, .string T] 23 (0, 0)) := blk_new w2 (fo P B C T)
  have hB4 := hB2.alloc hB2.size (fo P B C T)
  refine (to_any _ _ _ _ _ _).mono ?_
  rintro e w4 ⟨rfl, hw4⟩
  rw [Hv.out.1]
  have hN5 := (congrArg (fun W : World => W.heap[w2.heap.size]?) hw4).trans (blk_alloc hN4 _)
  (try simp only at hN5)
  have hB5 : Below w.heap.size w w4 := by rw [hw4]; exact hB4.alloc hB4.size _
  clear hw4 hN4 hB4
  have x0 := (blk_cell (k := 0) hN5 rfl).1
  have x1 := (blk_cell (k := 1) hN5 rfl).1
  have x2 := (blk_cell (k := 2) hN5 rfl).1
  have x3 := (blk_cell (k := 3) hN5 rfl).1
  simp only [List.getElem_toArray, List.getElem_cons_zero, List.getElem_cons_succ] at x0 x1 x2 x3
  go_wp2_with fail
  refine (to_any _ _ _ _ _ _).mono ?_
  rintro e w5 ⟨rfl, hw5⟩
  rw [Hv.out.2.1]
  have hN6 := (congrArg (fun W : World => W.heap[w2.heap.size]?) hw5).trans (blk_alloc hN5 _)
  (try simp only at hN6)
  have hB6 : Below w.heap.size w w5 := by rw [hw5]; exact hB5.alloc hB5.size _
  clear hw5 hN5 hB5 x0 x1 x2 x3
  have hs6 := blk_cell (k := 0) hN6 rfl
  have hN7 : (w5.setCell ⟨w2.heap.size, 0, none⟩ (.int .i64 65535)).heap[w2.heap.size]? = some (fo 65535 B C T) := blk_setc (k := 0) hN6 _
  have hB7 : Below w.heap.size w (w5.setCell ⟨w2.heap.size, 0, none⟩ (.int .i64 65535)) := hB6.setCell (p := ⟨w2.heap.size, 0, none⟩) hB2.size _
  simp only [List.getElem_toArray, List.getElem_cons_zero] at hs6
  go_wp2
  revert hN7 hB7
  generalize hW6 : w5.setCell ⟨w2.heap.size, 0, none⟩ (.int .i64 65535) = w6
  intro hN7 hB7
  clear hs6 hN6 hB6
  have x0 := (blk_cell (k := 0) hN7 rfl).1
  have x1 := (blk_cell (k := 1) hN7 rfl).1
  have x2 := (blk_cell (k := 2) hN7 rfl).1
  have x3 := (blk_cell (k := 3) hN7 rfl).1
  simp only [List.getElem_toArray, List.getElem_cons_zero, List.getElem_cons_succ] at x0 x1 x2 x3
  have i1 := Hv.out.2.2.2.1
  have i2 := Hv.out.2.2.2.2
  clear hW6
  go_region_held3 (fun w' => w'.cell? ⟨w2.heap.size, 0, none⟩ = some (.int .i64 65535) ∧ w'.cell? ⟨w2.heap.size, 1, none⟩ = some (.int .i64 B) ∧ w'.cell? ⟨w2.heap.size, 2, none⟩ = some (.int .i64 C) ∧ w'.cell? ⟨w2.heap.size, 3, none⟩ = some (.string T))
    (first | exact ⟨x0, x1, x2, x3⟩ | exact ⟨cell_alloc x0 _, cell_alloc x1 _, cell_alloc x2 _, cell_alloc x3 _⟩)
    ((go_at_call 17; refine (to_any _ _ _ _ _ _).mono ?_; rintro e w' ⟨rfl, rfl⟩; rw [Hv.out.2.2.1]))
  have hB8 : Below w.heap.size w (w6.alloc (fo 65535 B C T)).drew := (hB7.alloc hB7.size _).drew
  go_wp2
  go_ret
  exact ⟨rfl, hB8⟩

set_option maxRecDepth 100000 in
set_option maxHeartbeats 1600000 in
theorem dl_ft (a b c : Int) (s : ByteArray) (p q : Int) (w : World) (a1 : -9223372036854775808 ≤ a) (a2 : a ≤ 9223372036854775807) (b1 : -9223372036854775808 ≤ b) (b2 : b ≤ 9223372036854775807) (c1 : -9223372036854775808 ≤ c) (c2 : c ≤ 9223372036854775807) (hs : s.size ≤ maxLen) (p1 : -9223372036854775808 ≤ p) (p2 : p ≤ 9223372036854775807) (q1 : -9223372036854775808 ≤ q) (q2 : q ≤ 9223372036854775807) (e1 : ¬ 1 + pickZ p 65534 = 1 + pickZ q 65534) (e2 : 1 + pickZ q 65534 = 1 + pickZ b 65534) (ea : Addr) (E : Env w ea) :
    Calls Tryd.prog 9 #[fv a b c s, .int .i64 p, .int .i64 q] w fun e w' => e = .returned (.bool true) ∧ Below w.heap.size w w' := by
  have H1 := Lib.hid e1
  have H2 := Lib.hid e2
  clear e1 e2
  go_enter Tryd.func9, Tryd.ntmps9
  go_wp2_with fail
  have E0 : Env (w.alloc (fo a b c s)) ea := cell_alloc E _
  refine (sane_any _ ea E0).mono ?_
  rintro e w1 ⟨rfl, hb1⟩
  have hB1 : Below w.heap.size w w1 := ((Below.refl _ w).alloc (Nat.le_refl _) _).trans (hb1.mono (by simp))
  have hf1 := blk_below (blk_new w (fo a b c s)) hb1 (by simp)
  have E1 := E.stay hB1
  clear hb1 E0 E
  have x0 := (blk_cell (k := 0) hf1 rfl).1
  have x1 := (blk_cell (k := 1) hf1 rfl).1
  have x2 := (blk_cell (k := 2) hf1 rfl).1
  have x3 := (blk_cell (k := 3) hf1 rfl).1
  simp only [List.getElem_toArray, List.getElem_cons_zero, List.getElem_cons_succ] at x0 x1 x2 x3
  go_wp2_with fail
  refine (frame_law a b c s _ a1 a2 b1 b2 c1 c2 hs).mono ?_
  rintro e w2 ⟨rfl, hb2⟩
  have hB2 := hB1.trans (hb2.mono hB1.size)
  have E2 := E1.stay hb2
  have hok := okF_pick a b c s
  clear hb2 E1 x0 x1 x2 x3 hf1
  revert hok H2
  generalize 1 + pickZ a 65535 = A
  generalize 1 + pickZ b 65534 = B
  generalize 1 + pickZ c 2 = C
  generalize cutK s = T
  intro H2 hok
  have hT : T.size ≤ 1024 := hok.2.2.2.2.2
  have hp := pickZ_bd p 65534 (by decide)
  have hq := pickZ_bd q 65534 (by decide)
  have wp1 : IntKind.i64.wrap (1 + pickZ p 65534) = 1 + pickZ p 65534 := wraps_i64 _ (by omega) (by omega)
  have wq1 : IntKind.i64.wrap (1 + pickZ q 65534) = 1 + pickZ q 65534 := wraps_i64 _ (by omega) (by omega)
  go_wp2_with fail
  refine (pick_any _ _ _ p1 p2 (by decide) (by decide)).mono ?_
  rintro e w' ⟨rfl, rfl⟩
  go_wp2_with fail
  refine (pick_any _ _ _ q1 q2 (by decide) (by decide)).mono ?_
  rintro e w' ⟨rfl, rfl⟩
  have hP1 : 1 ≤ 1 + pickZ p 65534 := by omega
  have hP2 : 1 + pickZ p 65534 ≤ 65534 := by omega
  go_wp2_with fail
  clear hp hq wp1 wq1
  revert H1 H2 hP1 hP2
  generalize 1 + pickZ p 65534 = P
  generalize 1 + pickZ q 65534 = Q
  intro H1 H2 hP1 hP2
  have hok2 := hok.2.2.1
  have Hv : Hid (toB P B Q = false ∧ toB P B B = false ∧ toB 65535 B Q = false ∧ (P == Q) = false ∧ (Q != B) = false) := by
    have e1 := H1.out
    have e2 := H2.out
    refine ⟨?_, ?_, ?_, ?_, ?_⟩
    · unfold toB; simp [e2]
    · unfold toB; simp
    · unfold toB; simp [e2]
    · simp [e1]
    · simp [e2]
  clear H1 H2
  have hN4 : (w2.alloc (fo P B C T)).heap[w2.heap.size]? = some (.cells #[.int .i64 P, .int .i64 B, .int .i64 C, .string T] 23 (0, 0)) := blk_new w2 (fo P B C T)
  have hB4 := hB2.alloc hB2.size (fo P B C T)
  refine (to_any _ _ _ _ _ _).mono ?_
  rintro e w4 ⟨rfl, hw4⟩
  rw [Hv.out.1]
  have hN5 := (congrArg (fun W : World => W.heap[w2.heap.size]?) hw4).trans (blk_alloc hN4 _)
  (try simp only at hN5)
  have hB5 : Below w.heap.size w w4 := by rw [hw4]; exact hB4.alloc hB4.size _
  clear hw4 hN4 hB4
  have x0 := (blk_cell (k := 0) hN5 rfl).1
  have x1 := (blk_cell (k := 1) hN5 rfl).1
  have x2 := (blk_cell (k := 2) hN5 rfl).1
  have x3 := (blk_cell (k := 3) hN5 rfl).1
  simp only [List.getElem_toArray, List.getElem_cons_zero, List.getElem_cons_succ] at x0 x1 x2 x3
  go_wp2_with fail
  refine (to_any _ _ _ _ _ _).mono ?_
  rintro e w5 ⟨rfl, hw5⟩
  rw [Hv.out.2.1]
  have hN6 := (congrArg (fun W : World => W.heap[w2.heap.size]?) hw5).trans (blk_alloc hN5 _)
  (try simp only at hN6)
  have hB6 : Below w.heap.size w w5 := by rw [hw5]; exact hB5.alloc hB5.size _
  clear hw5 hN5 hB5 x0 x1 x2 x3
  have hs6 := blk_cell (k := 0) hN6 rfl
  have hN7 : (w5.setCell ⟨w2.heap.size, 0, none⟩ (.int .i64 65535)).heap[w2.heap.size]? = some (fo 65535 B C T) := blk_setc (k := 0) hN6 _
  have hB7 : Below w.heap.size w (w5.setCell ⟨w2.heap.size, 0, none⟩ (.int .i64 65535)) := hB6.setCell (p := ⟨w2.heap.size, 0, none⟩) hB2.size _
  simp only [List.getElem_toArray, List.getElem_cons_zero] at hs6
  go_wp2
  revert hN7 hB7
  generalize hW6 : w5.setCell ⟨w2.heap.size, 0, none⟩ (.int .i64 65535) = w6
  intro hN7 hB7
  clear hs6 hN6 hB6
  have x0 := (blk_cell (k := 0) hN7 rfl).1
  have x1 := (blk_cell (k := 1) hN7 rfl).1
  have x2 := (blk_cell (k := 2) hN7 rfl).1
  have x3 := (blk_cell (k := 3) hN7 rfl).1
  simp only [List.getElem_toArray, List.getElem_cons_zero, List.getElem_cons_succ] at x0 x1 x2 x3
  have i1 := Hv.out.2.2.2.1
  have i2 := Hv.out.2.2.2.2
  clear hW6
  refine wp_region_noPanic ?_
  refine wp_region_held_drew (S := fun w' => w'.cell? ⟨w2.heap.size, 0, none⟩ = some (.int .i64 65535) ∧ w'.cell? ⟨w2.heap.size, 1, none⟩ = some (.int .i64 B) ∧ w'.cell? ⟨w2.heap.size, 2, none⟩ = some (.int .i64 C) ∧ w'.cell? ⟨w2.heap.size, 3, none⟩ = some (.string T)) (by kernel_rfl) (⟨x0, x1, x2, x3⟩) (fun hHeld => ?_)
  first
    | (refine wpAnyH_take (i := 0) (oi := ⟨some 30, _, _, _, _, _⟩) (v := ?v0) rfl (by kernel_rfl) (by kernel_rfl) (by kernel_rfl) (fun _ _ _ h => h) (Or.inl ⟨by rfl, ?hy0⟩) hHeld ?rr0
       case hy0 => (intro w hSw; (try dsimp only at hSw); go_simp; try with_reducible rfl))
    | (refine wpAnyH_take (i := 0) (oi := ⟨some 30, _, _, _, _, _⟩) (v := undef) rfl (by kernel_rfl) (by kernel_rfl) (by kernel_rfl) (fun _ _ _ h => h) (Or.inr ⟨by rfl, rfl⟩) hHeld ?rr0)
  try simp only [Act.put, List.setIfInBounds_toArray, List.set_cons_zero, List.set_cons_succ]
  first
    | (refine wpAnyH_take (i := 1) (oi := ⟨some 31, _, _, _, _, _⟩) (v := ?v1) rfl (by kernel_rfl) (by kernel_rfl) (by kernel_rfl) (fun _ _ _ h => h) (Or.inl ⟨by rfl, ?hy1⟩) hHeld ?rr1
       case hy1 => (intro w hSw; (try dsimp only at hSw); go_simp; try with_reducible rfl))
    | (refine wpAnyH_take (i := 1) (oi := ⟨some 31, _, _, _, _, _⟩) (v := undef) rfl (by kernel_rfl) (by kernel_rfl) (by kernel_rfl) (fun _ _ _ h => h) (Or.inr ⟨by rfl, rfl⟩) hHeld ?rr1)
  try simp only [Act.put, List.setIfInBounds_toArray, List.set_cons_zero, List.set_cons_succ]
  first
    | (refine wpAnyH_take (i := 2) (oi := ⟨some 32, _, _, _, _, _⟩) (v := ?v2) rfl (by kernel_rfl) (by kernel_rfl) (by kernel_rfl) (fun _ _ _ h => h) (Or.inl ⟨by rfl, ?hy2⟩) hHeld ?rr2
       case hy2 => (intro w hSw; (try dsimp only at hSw); go_simp; try with_reducible rfl))
    | (refine wpAnyH_take (i := 2) (oi := ⟨some 32, _, _, _, _, _⟩) (v := undef) rfl (by kernel_rfl) (by kernel_rfl) (by kernel_rfl) (fun _ _ _ h => h) (Or.inr ⟨by rfl, rfl⟩) hHeld ?rr2)
  try simp only [Act.put, List.setIfInBounds_toArray, List.set_cons_zero, List.set_cons_succ]
  first
    | (refine wpAnyH_take (i := 3) (oi := ⟨some 33, _, _, _, _, _⟩) (v := ?v3) rfl (by kernel_rfl) (by kernel_rfl) (by kernel_rfl) (fun _ _ _ h => h) (Or.inl ⟨by rfl, ?hy3⟩) hHeld ?rr3
       case hy3 => (intro w hSw; (try dsimp only at hSw); go_simp; try with_reducible rfl))
    | (refine wpAnyH_take (i := 3) (oi := ⟨some 33, _, _, _, _, _⟩) (v := undef) rfl (by kernel_rfl) (by kernel_rfl) (by kernel_rfl) (fun _ _ _ h => h) (Or.inr ⟨by rfl, rfl⟩) hHeld ?rr3)
  try simp only [Act.put, List.setIfInBounds_toArray, List.set_cons_zero, List.set_cons_succ]
  first
    | (refine wpAnyH_take (i := 4) (oi := ⟨some 34, _, _, _, _, _⟩) (v := ?v4) rfl (by kernel_rfl) (by kernel_rfl) (by kernel_rfl) (fun _ _ _ h => h) (Or.inl ⟨by rfl, ?hy4⟩) hHeld ?rr4
       case hy4 => (intro w hSw; (try dsimp only at hSw); go_simp; try with_reducible rfl))
    | (refine wpAnyH_take (i := 4) (oi := ⟨some 34, _, _, _, _, _⟩) (v := undef) rfl (by kernel_rfl) (by kernel_rfl) (by kernel_rfl) (fun _ _ _ h => h) (Or.inr ⟨by rfl, rfl⟩) hHeld ?rr4)
  try simp only [Act.put, List.setIfInBounds_toArray, List.set_cons_zero, List.set_cons_succ]
  first
    | (refine wpAnyH_take (i := 5) (oi := ⟨some 35, _, _, _, _, _⟩) (v := ?v5) rfl (by kernel_rfl) (by kernel_rfl) (by kernel_rfl) (fun _ _ _ h => h) (Or.inl ⟨by rfl, ?hy5⟩) hHeld ?rr5
       case hy5 => (intro w hSw; (try dsimp only at hSw); go_simp; try with_reducible rfl))
    | (refine wpAnyH_take (i := 5) (oi := ⟨some 35, _, _, _, _, _⟩) (v := undef) rfl (by kernel_rfl) (by kernel_rfl) (by kernel_rfl) (fun _ _ _ h => h) (Or.inr ⟨by rfl, rfl⟩) hHeld ?rr5)
  try simp only [Act.put, List.setIfInBounds_toArray, List.set_cons_zero, List.set_cons_succ]
  first
    | (refine wpAnyH_take (i := 6) (oi := ⟨some 36, _, _, _, _, _⟩) (v := ?v6) rfl (by kernel_rfl) (by kernel_rfl) (by kernel_rfl) (fun _ _ _ h => h) (Or.inl ⟨by rfl, ?hy6⟩) hHeld ?rr6
       case hy6 => (intro w hSw; (try dsimp only at hSw); go_simp; try with_reducible rfl))
    | (refine wpAnyH_take (i := 6) (oi := ⟨some 36, _, _, _, _, _⟩) (v := undef) rfl (by kernel_rfl) (by kernel_rfl) (by kernel_rfl) (fun _ _ _ h => h) (Or.inr ⟨by rfl, rfl⟩) hHeld ?rr6)
  try simp only [Act.put, List.setIfInBounds_toArray, List.set_cons_zero, List.set_cons_succ]
  first
    | (refine wpAnyH_take (i := 7) (oi := ⟨some 37, _, _, _, _, _⟩) (v := ?v7) rfl (by kernel_rfl) (by kernel_rfl) (by kernel_rfl) (fun _ _ _ h => h) (Or.inl ⟨by rfl, ?hy7⟩) hHeld ?rr7
       case hy7 => (intro w hSw; (try dsimp only at hSw); go_simp; try with_reducible rfl))
    | (refine wpAnyH_take (i := 7) (oi := ⟨some 37, _, _, _, _, _⟩) (v := undef) rfl (by kernel_rfl) (by kernel_rfl) (by kernel_rfl) (fun _ _ _ h => h) (Or.inr ⟨by rfl, rfl⟩) hHeld ?rr7)
  try simp only [Act.put, List.setIfInBounds_toArray, List.set_cons_zero, List.set_cons_succ]
  first
    | (refine wpAnyH_take (i := 8) (oi := ⟨some 38, _, _, _, _, _⟩) (v := ?v8) rfl (by kernel_rfl) (by kernel_rfl) (by kernel_rfl) (fun _ _ _ h => h) (Or.inl ⟨by rfl, ?hy8⟩) hHeld ?rr8
       case hy8 => (intro w hSw; (try dsimp only at hSw); go_simp; try with_reducible rfl))
    | (refine wpAnyH_take (i := 8) (oi := ⟨some 38, _, _, _, _, _⟩) (v := undef) rfl (by kernel_rfl) (by kernel_rfl) (by kernel_rfl) (fun _ _ _ h => h) (Or.inr ⟨by rfl, rfl⟩) hHeld ?rr8)
  try simp only [Act.put, List.setIfInBounds_toArray, List.set_cons_zero, List.set_cons_succ]
  first
    | (refine wpAnyH_take (i := 9) (oi := ⟨some 39, _, _, _, _, _⟩) (v := ?v9) rfl (by kernel_rfl) (by kernel_rfl) (by kernel_rfl) (fun _ _ _ h => h) (Or.inl ⟨by rfl, ?hy9⟩) hHeld ?rr9
       case hy9 => (intro w hSw; (try dsimp only at hSw); go_simp; try with_reducible rfl))
    | (refine wpAnyH_take (i := 9) (oi := ⟨some 39, _, _, _, _, _⟩) (v := undef) rfl (by kernel_rfl) (by kernel_rfl) (by kernel_rfl) (fun _ _ _ h => h) (Or.inr ⟨by rfl, rfl⟩) hHeld ?rr9)
  try simp only [Act.put, List.setIfInBounds_toArray, List.set_cons_zero, List.set_cons_succ]
  first
    | (refine wpAnyH_take (i := 10) (oi := ⟨some 40, _, _, _, _, _⟩) (v := ?v10) rfl (by kernel_rfl) (by kernel_rfl) (by kernel_rfl) (fun _ _ _ h => h) (Or.inl ⟨by rfl, ?hy10⟩) hHeld ?rr10
       case hy10 => (intro w hSw; (try dsimp only at hSw); go_simp; try with_reducible rfl))
    | (refine wpAnyH_take (i := 10) (oi := ⟨some 40, _, _, _, _, _⟩) (v := undef) rfl (by kernel_rfl) (by kernel_rfl) (by kernel_rfl) (fun _ _ _ h => h) (Or.inr ⟨by rfl, rfl⟩) hHeld ?rr10)
  try simp only [Act.put, List.setIfInBounds_toArray, List.set_cons_zero, List.set_cons_succ]
  first
    | (refine wpAnyH_take (i := 11) (oi := ⟨some 41, _, _, _, _, _⟩) (v := ?v11) rfl (by kernel_rfl) (by kernel_rfl) (by kernel_rfl) (fun _ _ _ h => h) (Or.inl ⟨by rfl, ?hy11⟩) hHeld ?rr11
       case hy11 => (intro w hSw; (try dsimp only at hSw); go_simp; try with_reducible rfl))
    | (refine wpAnyH_take (i := 11) (oi := ⟨some 41, _, _, _, _, _⟩) (v := undef) rfl (by kernel_rfl) (by kernel_rfl) (by kernel_rfl) (fun _ _ _ h => h) (Or.inr ⟨by rfl, rfl⟩) hHeld ?rr11)
  try simp only [Act.put, List.setIfInBounds_toArray, List.set_cons_zero, List.set_cons_succ]
  first
    | (refine wpAnyH_take (i := 12) (oi := ⟨some 42, _, _, _, _, _⟩) (v := ?v12) rfl (by kernel_rfl) (by kernel_rfl) (by kernel_rfl) (fun _ _ _ h => h) (Or.inl ⟨by rfl, ?hy12⟩) hHeld ?rr12
       case hy12 => (intro w hSw; (try dsimp only at hSw); go_simp; try with_reducible rfl))
    | (refine wpAnyH_take (i := 12) (oi := ⟨some 42, _, _, _, _, _⟩) (v := undef) rfl (by kernel_rfl) (by kernel_rfl) (by kernel_rfl) (fun _ _ _ h => h) (Or.inr ⟨by rfl, rfl⟩) hHeld ?rr12)
  try simp only [Act.put, List.setIfInBounds_toArray, List.set_cons_zero, List.set_cons_succ]
  first
    | (refine wpAnyH_take (i := 13) (oi := ⟨some 43, _, _, _, _, _⟩) (v := ?v13) rfl (by kernel_rfl) (by kernel_rfl) (by kernel_rfl) (fun _ _ _ h => h) (Or.inl ⟨by rfl, ?hy13⟩) hHeld ?rr13
       case hy13 => (intro w hSw; (try dsimp only at hSw); go_simp; try with_reducible rfl))
    | (refine wpAnyH_take (i := 13) (oi := ⟨some 43, _, _, _, _, _⟩) (v := undef) rfl (by kernel_rfl) (by kernel_rfl) (by kernel_rfl) (fun _ _ _ h => h) (Or.inr ⟨by rfl, rfl⟩) hHeld ?rr13)
  try simp only [Act.put, List.setIfInBounds_toArray, List.set_cons_zero, List.set_cons_succ]
  first
    | (refine wpAnyH_take (i := 14) (oi := ⟨some 44, _, _, _, _, _⟩) (v := ?v14) rfl (by kernel_rfl) (by kernel_rfl) (by kernel_rfl) (fun _ _ _ h => h) (Or.inl ⟨by rfl, ?hy14⟩) hHeld ?rr14
       case hy14 => (intro w hSw; (try dsimp only at hSw); go_simp; try with_reducible rfl))
    | (refine wpAnyH_take (i := 14) (oi := ⟨some 44, _, _, _, _, _⟩) (v := undef) rfl (by kernel_rfl) (by kernel_rfl) (by kernel_rfl) (fun _ _ _ h => h) (Or.inr ⟨by rfl, rfl⟩) hHeld ?rr14)
  try simp only [Act.put, List.setIfInBounds_toArray, List.set_cons_zero, List.set_cons_succ]
  first
    | (refine wpAnyH_take (i := 15) (oi := ⟨some 45, _, _, _, _, _⟩) (v := ?v15) rfl (by kernel_rfl) (by kernel_rfl) (by kernel_rfl) (fun _ _ _ h => h) (Or.inl ⟨by rfl, ?hy15⟩) hHeld ?rr15
       case hy15 => (intro w hSw; (try dsimp only at hSw); go_simp; try with_reducible rfl))
    | (refine wpAnyH_take (i := 15) (oi := ⟨some 45, _, _, _, _, _⟩) (v := undef) rfl (by kernel_rfl) (by kernel_rfl) (by kernel_rfl) (fun _ _ _ h => h) (Or.inr ⟨by rfl, rfl⟩) hHeld ?rr15)
  try simp only [Act.put, List.setIfInBounds_toArray, List.set_cons_zero, List.set_cons_succ]
  first
    | (refine wpAnyH_take (i := 16) (oi := ⟨some 46, _, _, _, _, _⟩) (v := ?v16) rfl (by kernel_rfl) (by kernel_rfl) (by kernel_rfl) (fun _ _ _ h => h) (Or.inl ⟨by rfl, ?hy16⟩) hHeld ?rr16
       case hy16 => (intro w hSw; (try dsimp only at hSw); go_simp; try with_reducible rfl))
    | (refine wpAnyH_take (i := 16) (oi := ⟨some 46, _, _, _, _, _⟩) (v := undef) rfl (by kernel_rfl) (by kernel_rfl) (by kernel_rfl) (fun _ _ _ h => h) (Or.inr ⟨by rfl, rfl⟩) hHeld ?rr16)
  try simp only [Act.put, List.setIfInBounds_toArray, List.set_cons_zero, List.set_cons_succ]
  first
    | (refine wpAnyH_take (i := 17) (oi := ⟨some 47, _, _, _, _, _⟩) (v := ?v17) rfl (by kernel_rfl) (by kernel_rfl) (by kernel_rfl) (fun _ _ _ h => h) (Or.inl ⟨by rfl, ?hy17⟩) hHeld ?rr17
       case hy17 => (intro w hSw; (try dsimp only at hSw); go_simp; try with_reducible rfl))
    | (refine wpAnyH_take (i := 17) (oi := ⟨some 47, _, _, _, _, _⟩) (v := undef) rfl (by kernel_rfl) (by kernel_rfl) (by kernel_rfl) (fun _ _ _ h => h) (Or.inr ⟨by rfl, rfl⟩) hHeld ?rr17)
  try simp only [Act.put, List.setIfInBounds_toArray, List.set_cons_zero, List.set_cons_succ]
  first
    | (refine wpAnyH_take (i := 18) (oi := ⟨some 48, _, _, _, _, _⟩) (v := ?v18) rfl (by kernel_rfl) (by kernel_rfl) (by kernel_rfl) (fun _ _ _ h => h) (Or.inl ⟨by rfl, ?hy18⟩) hHeld ?rr18
       case hy18 => (intro w hSw; (try dsimp only at hSw); go_simp; try with_reducible rfl))
    | (refine wpAnyH_take (i := 18) (oi := ⟨some 48, _, _, _, _, _⟩) (v := undef) rfl (by kernel_rfl) (by kernel_rfl) (by kernel_rfl) (fun _ _ _ h => h) (Or.inr ⟨by rfl, rfl⟩) hHeld ?rr18)
  try simp only [Act.put, List.setIfInBounds_toArray, List.set_cons_zero, List.set_cons_succ]
  first
    | (refine wpAnyH_take (i := 19) (oi := ⟨some 49, _, _, _, _, _⟩) (v := ?v19) rfl (by kernel_rfl) (by kernel_rfl) (by kernel_rfl) (fun _ _ _ h => h) (Or.inl ⟨by rfl, ?hy19⟩) hHeld ?rr19
       case hy19 => (intro w hSw; (try dsimp only at hSw); go_simp; try with_reducible rfl))
    | (refine wpAnyH_take (i := 19) (oi := ⟨some 49, _, _, _, _, _⟩) (v := undef) rfl (by kernel_rfl) (by kernel_rfl) (by kernel_rfl) (fun _ _ _ h => h) (Or.inr ⟨by rfl, rfl⟩) hHeld ?rr19)
  try simp only [Act.put, List.setIfInBounds_toArray, List.set_cons_zero, List.set_cons_succ]
  first
    | (refine wpAnyH_take (i := 20) (oi := ⟨some 50, _, _, _, _, _⟩) (v := ?v20) rfl (by kernel_rfl) (by kernel_rfl) (by kernel_rfl) (fun _ _ _ h => h) (Or.inl ⟨by rfl, ?hy20⟩) hHeld ?rr20
       case hy20 => (intro w hSw; (try dsimp only at hSw); go_simp; try with_reducible rfl))
    | (refine wpAnyH_take (i := 20) (oi := ⟨some 50, _, _, _, _, _⟩) (v := undef) rfl (by kernel_rfl) (by kernel_rfl) (by kernel_rfl) (fun _ _ _ h => h) (Or.inr ⟨by rfl, rfl⟩) hHeld ?rr20)
  try simp only [Act.put, List.setIfInBounds_toArray, List.set_cons_zero, List.set_cons_succ]
  first
    | (refine wpAnyH_take (i := 22) (oi := ⟨some 52, _, _, _, _, _⟩) (v := ?v22) rfl (by kernel_rfl) (by kernel_rfl) (by kernel_rfl) (fun _ _ _ h => h) (Or.inl ⟨by rfl, ?hy22⟩) hHeld ?rr22
       case hy22 => (intro w hSw; (try dsimp only at hSw); go_simp; try with_reducible rfl))
    | (refine wpAnyH_take (i := 22) (oi := ⟨some 52, _, _, _, _, _⟩) (v := undef) rfl (by kernel_rfl) (by kernel_rfl) (by kernel_rfl) (fun _ _ _ h => h) (Or.inr ⟨by rfl, rfl⟩) hHeld ?rr22)
  try simp only [Act.put, List.setIfInBounds_toArray, List.set_cons_zero, List.set_cons_succ]
  first
    | (refine wpAnyH_take (i := 23) (oi := ⟨some 53, _, _, _, _, _⟩) (v := ?v23) rfl (by kernel_rfl) (by kernel_rfl) (by kernel_rfl) (fun _ _ _ h => h) (Or.inl ⟨by rfl, ?hy23⟩) hHeld ?rr23
       case hy23 => (intro w hSw; (try dsimp only at hSw); go_simp; try with_reducible rfl))
    | (refine wpAnyH_take (i := 23) (oi := ⟨some 53, _, _, _, _, _⟩) (v := undef) rfl (by kernel_rfl) (by kernel_rfl) (by kernel_rfl) (fun _ _ _ h => h) (Or.inr ⟨by rfl, rfl⟩) hHeld ?rr23)
  try simp only [Act.put, List.setIfInBounds_toArray, List.set_cons_zero, List.set_cons_succ]
  first
    | (refine wpAnyH_take (i := 24) (oi := ⟨some 54, _, _, _, _, _⟩) (v := ?v24) rfl (by kernel_rfl) (by kernel_rfl) (by kernel_rfl) (fun _ _ _ h => h) (Or.inl ⟨by rfl, ?hy24⟩) hHeld ?rr24
       case hy24 => (intro w hSw; (try dsimp only at hSw); go_simp; try with_reducible rfl))
    | (refine wpAnyH_take (i := 24) (oi := ⟨some 54, _, _, _, _, _⟩) (v := undef) rfl (by kernel_rfl) (by kernel_rfl) (by kernel_rfl) (fun _ _ _ h => h) (Or.inr ⟨by rfl, rfl⟩) hHeld ?rr24)
  try simp only [Act.put, List.setIfInBounds_toArray, List.set_cons_zero, List.set_cons_succ]
  first
    | (refine wpAnyH_take (i := 25) (oi := ⟨some 55, _, _, _, _, _⟩) (v := ?v25) rfl (by kernel_rfl) (by kernel_rfl) (by kernel_rfl) (fun _ _ _ h => h) (Or.inl ⟨by rfl, ?hy25⟩) hHeld ?rr25
       case hy25 => (intro w hSw; (try dsimp only at hSw); go_simp; try with_reducible rfl))
    | (refine wpAnyH_take (i := 25) (oi := ⟨some 55, _, _, _, _, _⟩) (v := undef) rfl (by kernel_rfl) (by kernel_rfl) (by kernel_rfl) (fun _ _ _ h => h) (Or.inr ⟨by rfl, rfl⟩) hHeld ?rr25)
  try simp only [Act.put, List.setIfInBounds_toArray, List.set_cons_zero, List.set_cons_succ]
  refine wpAnyH_ready (rs := [21]) (by kernel_rfl) (by simp) ?_
  refine AllReadyH.cons (o := ⟨some 51, _, _, _, _, _⟩) rfl (fun K hK => ?_) AllReadyH.nil
  go_simp
  refine (to_any _ _ _ _ _ _).mono ?_
  rintro e w' ⟨rfl, rfl⟩
  rw [Hv.out.2.2.1]
  refine hK.out _ _ (⟨cell_alloc x0 _, cell_alloc x1 _, cell_alloc x2 _, cell_alloc x3 _⟩) (fun hHeld2 => ?_)
  clear hK K hHeld
  have hHeld := hHeld2
  clear hHeld2
  try simp only [Act.put, List.setIfInBounds_toArray, List.set_cons_zero, List.set_cons_succ]
  first
    | (refine wpAnyH_take (i := 26) (oi := ⟨some 56, _, _, _, _, _⟩) (v := ?v26) rfl (by kernel_rfl) (by kernel_rfl) (by kernel_rfl) (fun _ _ _ h => h) (Or.inl ⟨by rfl, ?hy26⟩) hHeld ?rr26
       case hy26 => (intro w hSw; (try dsimp only at hSw); go_simp; try with_reducible rfl))
    | (refine wpAnyH_take (i := 26) (oi := ⟨some 56, _, _, _, _, _⟩) (v := undef) rfl (by kernel_rfl) (by kernel_rfl) (by kernel_rfl) (fun _ _ _ h => h) (Or.inr ⟨by rfl, rfl⟩) hHeld ?rr26)
  try simp only [Act.put, List.setIfInBounds_toArray, List.set_cons_zero, List.set_cons_succ]
  first
    | (refine wpAnyH_take (i := 27) (oi := ⟨some 57, _, _, _, _, _⟩) (v := ?v27) rfl (by kernel_rfl) (by kernel_rfl) (by kernel_rfl) (fun _ _ _ h => h) (Or.inl ⟨by rfl, ?hy27⟩) hHeld ?rr27
       case hy27 => (intro w hSw; (try dsimp only at hSw); go_simp; try with_reducible rfl))
    | (refine wpAnyH_take (i := 27) (oi := ⟨some 57, _, _, _, _, _⟩) (v := undef) rfl (by kernel_rfl) (by kernel_rfl) (by kernel_rfl) (fun _ _ _ h => h) (Or.inr ⟨by rfl, rfl⟩) hHeld ?rr27)
  try simp only [Act.put, List.setIfInBounds_toArray, List.set_cons_zero, List.set_cons_succ]
  first
    | (refine wpAnyH_take (i := 28) (oi := ⟨some 6, _, _, _, _, _⟩) (v := ?v28) rfl (by kernel_rfl) (by kernel_rfl) (by kernel_rfl) (fun _ _ _ h => h) (Or.inl ⟨by rfl, ?hy28⟩) hHeld ?rr28
       case hy28 => (intro w hSw; (try dsimp only at hSw); go_simp; try with_reducible rfl))
    | (refine wpAnyH_take (i := 28) (oi := ⟨some 6, _, _, _, _, _⟩) (v := undef) rfl (by kernel_rfl) (by kernel_rfl) (by kernel_rfl) (fun _ _ _ h => h) (Or.inr ⟨by rfl, rfl⟩) hHeld ?rr28)
  try simp only [Act.put, List.setIfInBounds_toArray, List.set_cons_zero, List.set_cons_succ]
  refine wpAnyH_done (by kernel_rfl) ?_ _
  refine NoPanic.normal ?_
  have hB8 : Below w.heap.size w (w6.alloc (fo 65535 B C T)).drew := (hB7.alloc hB7.size _).drew
  go_wp2
  go_ret
  exact ⟨rfl, hB8⟩

set_option maxRecDepth 100000 in
set_option maxHeartbeats 1600000 in
theorem dl_ff (a b c : Int) (s : ByteArray) (p q : Int) (w : World) (a1 : -9223372036854775808 ≤ a) (a2 : a ≤ 9223372036854775807) (b1 : -9223372036854775808 ≤ b) (b2 : b ≤ 9223372036854775807) (c1 : -9223372036854775808 ≤ c) (c2 : c ≤ 9223372036854775807) (hs : s.size ≤ maxLen) (p1 : -9223372036854775808 ≤ p) (p2 : p ≤ 9223372036854775807) (q1 : -9223372036854775808 ≤ q) (q2 : q ≤ 9223372036854775807) (e1 : ¬ 1 + pickZ p 65534 = 1 + pickZ q 65534) (e2 : ¬ 1 + pickZ q 65534 = 1 + pickZ b 65534) (ea : Addr) (E : Env w ea) :
    Calls Tryd.prog 9 #[fv a b c s, .int .i64 p, .int .i64 q] w fun e w' => e = .returned (.bool true) ∧ Below w.heap.size w w' := by
  have H1 := Lib.hid e1
  have H2 := Lib.hid e2
  clear e1 e2
  go_enter Tryd.func9, Tryd.ntmps9
  go_wp2_with fail
  have E0 : Env (w.alloc (fo a b c s)) ea := cell_alloc E _
  refine (sane_any _ ea E0).mono ?_
  rintro e w1 ⟨rfl, hb1⟩
  have hB1 : Below w.heap.size w w1 := ((Below.refl _ w).alloc (Nat.le_refl _) _).trans (hb1.mono (by simp))
  have hf1 := blk_below (blk_new w (fo a b c s)) hb1 (by simp)
  have E1 := E.stay hB1
  clear hb1 E0 E
  have x0 := (blk_cell (k := 0) hf1 rfl).1
  have x1 := (blk_cell (k := 1) hf1 rfl).1
  have x2 := (blk_cell (k := 2) hf1 rfl).1
  have x3 := (blk_cell (k := 3) hf1 rfl).1
  simp only [List.getElem_toArray, List.getElem_cons_zero, List.getElem_cons_succ] at x0 x1 x2 x3
  go_wp2_with fail
  refine (frame_law a b c s _ a1 a2 b1 b2 c1 c2 hs).mono ?_
  rintro e w2 ⟨rfl, hb2⟩
  have hB2 := hB1.trans (hb2.mono hB1.size)
  have E2 := E1.stay hb2
  have hok := okF_pick a b c s
  clear hb2 E1 x0 x1 x2 x3 hf1
  revert hok H2
  generalize 1 + pickZ a 65535 = A
  generalize 1 + pickZ b 65534 = B
  generalize 1 + pickZ c 2 = C
  generalize cutK s = T
  intro H2 hok
  have hT : T.size ≤ 1024 := hok.2.2.2.2.2
  have hp := pickZ_bd p 65534 (by decide)
  have hq := pickZ_bd q 65534 (by decide)
  have wp1 : IntKind.i64.wrap (1 + pickZ p 65534) = 1 + pickZ p 65534 := wraps_i64 _ (by omega) (by omega)
  have wq1 : IntKind.i64.wrap (1 + pickZ q 65534) = 1 + pickZ q 65534 := wraps_i64 _ (by omega) (by omega)
  go_wp2_with fail
  refine (pick_any _ _ _ p1 p2 (by decide) (by decide)).mono ?_
  rintro e w' ⟨rfl, rfl⟩
  go_wp2_with fail
  refine (pick_any _ _ _ q1 q2 (by decide) (by decide)).mono ?_
  rintro e w' ⟨rfl, rfl⟩
  have hP1 : 1 ≤ 1 + pickZ p 65534 := by omega
  have hP2 : 1 + pickZ p 65534 ≤ 65534 := by omega
  go_wp2_with fail
  clear hp hq wp1 wq1
  revert H1 H2 hP1 hP2
  generalize 1 + pickZ p 65534 = P
  generalize 1 + pickZ q 65534 = Q
  intro H1 H2 hP1 hP2
  have hok2 := hok.2.2.1
  have Hv : Hid (toB P B Q = false ∧ toB P B B = false ∧ toB 65535 B Q = true ∧ (P == Q) = false ∧ (Q != B) = true) := by
    have e1 := H1.out
    have e2 := H2.out
    refine ⟨?_, ?_, ?_, ?_, ?_⟩
    · unfold toB; exact decide_eq_false (by omega)
    · unfold toB; simp
    · unfold toB; exact decide_eq_true ⟨.inr rfl, fun h => e2 h.symm⟩
    · simp [e1]
    · simp [e2]
  clear H1 H2
  have hN4 : (w2.alloc (fo P B C T)).heap[w2.heap.size]? = some (.cells #[.int .i64 P, .int .i64 B, .int .i64 C, .string T] 23 (0, 0)) := blk_new w2 (fo P B C T)
  have hB4 := hB2.alloc hB2.size (fo P B C T)
  refine (to_any _ _ _ _ _ _).mono ?_
  rintro e w4 ⟨rfl, hw4⟩
  rw [Hv.out.1]
  have hN5 := (congrArg (fun W : World => W.heap[w2.heap.size]?) hw4).trans (blk_alloc hN4 _)
  (try simp only at hN5)
  have hB5 : Below w.heap.size w w4 := by rw [hw4]; exact hB4.alloc hB4.size _
  clear hw4 hN4 hB4
  have x0 := (blk_cell (k := 0) hN5 rfl).1
  have x1 := (blk_cell (k := 1) hN5 rfl).1
  have x2 := (blk_cell (k := 2) hN5 rfl).1
  have x3 := (blk_cell (k := 3) hN5 rfl).1
  simp only [List.getElem_toArray, List.getElem_cons_zero, List.getElem_cons_succ] at x0 x1 x2 x3
  go_wp2_with fail
  refine (to_any _ _ _ _ _ _).mono ?_
  rintro e w5 ⟨rfl, hw5⟩
  rw [Hv.out.2.1]
  have hN6 := (congrArg (fun W : World => W.heap[w2.heap.size]?) hw5).trans (blk_alloc hN5 _)
  (try simp only at hN6)
  have hB6 : Below w.heap.size w w5 := by rw [hw5]; exact hB5.alloc hB5.size _
  clear hw5 hN5 hB5 x0 x1 x2 x3
  have hs6 := blk_cell (k := 0) hN6 rfl
  have hN7 : (w5.setCell ⟨w2.heap.size, 0, none⟩ (.int .i64 65535)).heap[w2.heap.size]? = some (fo 65535 B C T) := blk_setc (k := 0) hN6 _
  have hB7 : Below w.heap.size w (w5.setCell ⟨w2.heap.size, 0, none⟩ (.int .i64 65535)) := hB6.setCell (p := ⟨w2.heap.size, 0, none⟩) hB2.size _
  simp only [List.getElem_toArray, List.getElem_cons_zero] at hs6
  go_wp2
  revert hN7 hB7
  generalize hW6 : w5.setCell ⟨w2.heap.size, 0, none⟩ (.int .i64 65535) = w6
  intro hN7 hB7
  clear hs6 hN6 hB6
  have x0 := (blk_cell (k := 0) hN7 rfl).1
  have x1 := (blk_cell (k := 1) hN7 rfl).1
  have x2 := (blk_cell (k := 2) hN7 rfl).1
  have x3 := (blk_cell (k := 3) hN7 rfl).1
  simp only [List.getElem_toArray, List.getElem_cons_zero, List.getElem_cons_succ] at x0 x1 x2 x3
  have i1 := Hv.out.2.2.2.1
  have i2 := Hv.out.2.2.2.2
  clear hW6
  refine wp_region_noPanic ?_
  refine wp_region_held_drew (S := fun w' => w'.cell? ⟨w2.heap.size, 0, none⟩ = some (.int .i64 65535) ∧ w'.cell? ⟨w2.heap.size, 1, none⟩ = some (.int .i64 B) ∧ w'.cell? ⟨w2.heap.size, 2, none⟩ = some (.int .i64 C) ∧ w'.cell? ⟨w2.heap.size, 3, none⟩ = some (.string T)) (by kernel_rfl) (⟨x0, x1, x2, x3⟩) (fun hHeld => ?_)
  first
    | (refine wpAnyH_take (i := 0) (oi := ⟨some 30, _, _, _, _, _⟩) (v := ?v0) rfl (by kernel_rfl) (by kernel_rfl) (by kernel_rfl) (fun _ _ _ h => h) (Or.inl ⟨by rfl, ?hy0⟩) hHeld ?rr0
       case hy0 => (intro w hSw; (try dsimp only at hSw); go_simp; try with_reducible rfl))
    | (refine wpAnyH_take (i := 0) (oi := ⟨some 30, _, _, _, _, _⟩) (v := undef) rfl (by kernel_rfl) (by kernel_rfl) (by kernel_rfl) (fun _ _ _ h => h) (Or.inr ⟨by rfl, rfl⟩) hHeld ?rr0)
  try simp only [Act.put, List.setIfInBounds_toArray, List.set_cons_zero, List.set_cons_succ]
  first
    | (refine wpAnyH_take (i := 1) (oi := ⟨some 31, _, _, _, _, _⟩) (v := ?v1) rfl (by kernel_rfl) (by kernel_rfl) (by kernel_rfl) (fun _ _ _ h => h) (Or.inl ⟨by rfl, ?hy1⟩) hHeld ?rr1
       case hy1 => (intro w hSw; (try dsimp only at hSw); go_simp; try with_reducible rfl))
    | (refine wpAnyH_take (i := 1) (oi := ⟨some 31, _, _, _, _, _⟩) (v := undef) rfl (by kernel_rfl) (by kernel_rfl) (by kernel_rfl) (fun _ _ _ h => h) (Or.inr ⟨by rfl, rfl⟩) hHeld ?rr1)
  try simp only [Act.put, List.setIfInBounds_toArray, List.set_cons_zero, List.set_cons_succ]
  first
    | (refine wpAnyH_take (i := 2) (oi := ⟨some 32, _, _, _, _, _⟩) (v := ?v2) rfl (by kernel_rfl) (by kernel_rfl) (by kernel_rfl) (fun _ _ _ h => h) (Or.inl ⟨by rfl, ?hy2⟩) hHeld ?rr2
       case hy2 => (intro w hSw; (try dsimp only at hSw); go_simp; try with_reducible rfl))
    | (refine wpAnyH_take (i := 2) (oi := ⟨some 32, _, _, _, _, _⟩) (v := undef) rfl (by kernel_rfl) (by kernel_rfl) (by kernel_rfl) (fun _ _ _ h => h) (Or.inr ⟨by rfl, rfl⟩) hHeld ?rr2)
  try simp only [Act.put, List.setIfInBounds_toArray, List.set_cons_zero, List.set_cons_succ]
  first
    | (refine wpAnyH_take (i := 3) (oi := ⟨some 33, _, _, _, _, _⟩) (v := ?v3) rfl (by kernel_rfl) (by kernel_rfl) (by kernel_rfl) (fun _ _ _ h => h) (Or.inl ⟨by rfl, ?hy3⟩) hHeld ?rr3
       case hy3 => (intro w hSw; (try dsimp only at hSw); go_simp; try with_reducible rfl))
    | (refine wpAnyH_take (i := 3) (oi := ⟨some 33, _, _, _, _, _⟩) (v := undef) rfl (by kernel_rfl) (by kernel_rfl) (by kernel_rfl) (fun _ _ _ h => h) (Or.inr ⟨by rfl, rfl⟩) hHeld ?rr3)
  try simp only [Act.put, List.setIfInBounds_toArray, List.set_cons_zero, List.set_cons_succ]
  first
    | (refine wpAnyH_take (i := 4) (oi := ⟨some 34, _, _, _, _, _⟩) (v := ?v4) rfl (by kernel_rfl) (by kernel_rfl) (by kernel_rfl) (fun _ _ _ h => h) (Or.inl ⟨by rfl, ?hy4⟩) hHeld ?rr4
       case hy4 => (intro w hSw; (try dsimp only at hSw); go_simp; try with_reducible rfl))
    | (refine wpAnyH_take (i := 4) (oi := ⟨some 34, _, _, _, _, _⟩) (v := undef) rfl (by kernel_rfl) (by kernel_rfl) (by kernel_rfl) (fun _ _ _ h => h) (Or.inr ⟨by rfl, rfl⟩) hHeld ?rr4)
  try simp only [Act.put, List.setIfInBounds_toArray, List.set_cons_zero, List.set_cons_succ]
  first
    | (refine wpAnyH_take (i := 5) (oi := ⟨some 35, _, _, _, _, _⟩) (v := ?v5) rfl (by kernel_rfl) (by kernel_rfl) (by kernel_rfl) (fun _ _ _ h => h) (Or.inl ⟨by rfl, ?hy5⟩) hHeld ?rr5
       case hy5 => (intro w hSw; (try dsimp only at hSw); go_simp; try with_reducible rfl))
    | (refine wpAnyH_take (i := 5) (oi := ⟨some 35, _, _, _, _, _⟩) (v := undef) rfl (by kernel_rfl) (by kernel_rfl) (by kernel_rfl) (fun _ _ _ h => h) (Or.inr ⟨by rfl, rfl⟩) hHeld ?rr5)
  try simp only [Act.put, List.setIfInBounds_toArray, List.set_cons_zero, List.set_cons_succ]
  first
    | (refine wpAnyH_take (i := 6) (oi := ⟨some 36, _, _, _, _, _⟩) (v := ?v6) rfl (by kernel_rfl) (by kernel_rfl) (by kernel_rfl) (fun _ _ _ h => h) (Or.inl ⟨by rfl, ?hy6⟩) hHeld ?rr6
       case hy6 => (intro w hSw; (try dsimp only at hSw); go_simp; try with_reducible rfl))
    | (refine wpAnyH_take (i := 6) (oi := ⟨some 36, _, _, _, _, _⟩) (v := undef) rfl (by kernel_rfl) (by kernel_rfl) (by kernel_rfl) (fun _ _ _ h => h) (Or.inr ⟨by rfl, rfl⟩) hHeld ?rr6)
  try simp only [Act.put, List.setIfInBounds_toArray, List.set_cons_zero, List.set_cons_succ]
  first
    | (refine wpAnyH_take (i := 7) (oi := ⟨some 37, _, _, _, _, _⟩) (v := ?v7) rfl (by kernel_rfl) (by kernel_rfl) (by kernel_rfl) (fun _ _ _ h => h) (Or.inl ⟨by rfl, ?hy7⟩) hHeld ?rr7
       case hy7 => (intro w hSw; (try dsimp only at hSw); go_simp; try with_reducible rfl))
    | (refine wpAnyH_take (i := 7) (oi := ⟨some 37, _, _, _, _, _⟩) (v := undef) rfl (by kernel_rfl) (by kernel_rfl) (by kernel_rfl) (fun _ _ _ h => h) (Or.inr ⟨by rfl, rfl⟩) hHeld ?rr7)
  try simp only [Act.put, List.setIfInBounds_toArray, List.set_cons_zero, List.set_cons_succ]
  first
    | (refine wpAnyH_take (i := 8) (oi := ⟨some 38, _, _, _, _, _⟩) (v := ?v8) rfl (by kernel_rfl) (by kernel_rfl) (by kernel_rfl) (fun _ _ _ h => h) (Or.inl ⟨by rfl, ?hy8⟩) hHeld ?rr8
       case hy8 => (intro w hSw; (try dsimp only at hSw); go_simp; try with_reducible rfl))
    | (refine wpAnyH_take (i := 8) (oi := ⟨some 38, _, _, _, _, _⟩) (v := undef) rfl (by kernel_rfl) (by kernel_rfl) (by kernel_rfl) (fun _ _ _ h => h) (Or.inr ⟨by rfl, rfl⟩) hHeld ?rr8)
  try simp only [Act.put, List.setIfInBounds_toArray, List.set_cons_zero, List.set_cons_succ]
  first
    | (refine wpAnyH_take (i := 9) (oi := ⟨some 39, _, _, _, _, _⟩) (v := ?v9) rfl (by kernel_rfl) (by kernel_rfl) (by kernel_rfl) (fun _ _ _ h => h) (Or.inl ⟨by rfl, ?hy9⟩) hHeld ?rr9
       case hy9 => (intro w hSw; (try dsimp only at hSw); go_simp; try with_reducible rfl))
    | (refine wpAnyH_take (i := 9) (oi := ⟨some 39, _, _, _, _, _⟩) (v := undef) rfl (by kernel_rfl) (by kernel_rfl) (by kernel_rfl) (fun _ _ _ h => h) (Or.inr ⟨by rfl, rfl⟩) hHeld ?rr9)
  try simp only [Act.put, List.setIfInBounds_toArray, List.set_cons_zero, List.set_cons_succ]
  first
    | (refine wpAnyH_take (i := 10) (oi := ⟨some 40, _, _, _, _, _⟩) (v := ?v10) rfl (by kernel_rfl) (by kernel_rfl) (by kernel_rfl) (fun _ _ _ h => h) (Or.inl ⟨by rfl, ?hy10⟩) hHeld ?rr10
       case hy10 => (intro w hSw; (try dsimp only at hSw); go_simp; try with_reducible rfl))
    | (refine wpAnyH_take (i := 10) (oi := ⟨some 40, _, _, _, _, _⟩) (v := undef) rfl (by kernel_rfl) (by kernel_rfl) (by kernel_rfl) (fun _ _ _ h => h) (Or.inr ⟨by rfl, rfl⟩) hHeld ?rr10)
  try simp only [Act.put, List.setIfInBounds_toArray, List.set_cons_zero, List.set_cons_succ]
  first
    | (refine wpAnyH_take (i := 11) (oi := ⟨some 41, _, _, _, _, _⟩) (v := ?v11) rfl (by kernel_rfl) (by kernel_rfl) (by kernel_rfl) (fun _ _ _ h => h) (Or.inl ⟨by rfl, ?hy11⟩) hHeld ?rr11
       case hy11 => (intro w hSw; (try dsimp only at hSw); go_simp; try with_reducible rfl))
    | (refine wpAnyH_take (i := 11) (oi := ⟨some 41, _, _, _, _, _⟩) (v := undef) rfl (by kernel_rfl) (by kernel_rfl) (by kernel_rfl) (fun _ _ _ h => h) (Or.inr ⟨by rfl, rfl⟩) hHeld ?rr11)
  try simp only [Act.put, List.setIfInBounds_toArray, List.set_cons_zero, List.set_cons_succ]
  first
    | (refine wpAnyH_take (i := 12) (oi := ⟨some 42, _, _, _, _, _⟩) (v := ?v12) rfl (by kernel_rfl) (by kernel_rfl) (by kernel_rfl) (fun _ _ _ h => h) (Or.inl ⟨by rfl, ?hy12⟩) hHeld ?rr12
       case hy12 => (intro w hSw; (try dsimp only at hSw); go_simp; try with_reducible rfl))
    | (refine wpAnyH_take (i := 12) (oi := ⟨some 42, _, _, _, _, _⟩) (v := undef) rfl (by kernel_rfl) (by kernel_rfl) (by kernel_rfl) (fun _ _ _ h => h) (Or.inr ⟨by rfl, rfl⟩) hHeld ?rr12)
  try simp only [Act.put, List.setIfInBounds_toArray, List.set_cons_zero, List.set_cons_succ]
  first
    | (refine wpAnyH_take (i := 13) (oi := ⟨some 43, _, _, _, _, _⟩) (v := ?v13) rfl (by kernel_rfl) (by kernel_rfl) (by kernel_rfl) (fun _ _ _ h => h) (Or.inl ⟨by rfl, ?hy13⟩) hHeld ?rr13
       case hy13 => (intro w hSw; (try dsimp only at hSw); go_simp; try with_reducible rfl))
    | (refine wpAnyH_take (i := 13) (oi := ⟨some 43, _, _, _, _, _⟩) (v := undef) rfl (by kernel_rfl) (by kernel_rfl) (by kernel_rfl) (fun _ _ _ h => h) (Or.inr ⟨by rfl, rfl⟩) hHeld ?rr13)
  try simp only [Act.put, List.setIfInBounds_toArray, List.set_cons_zero, List.set_cons_succ]
  first
    | (refine wpAnyH_take (i := 14) (oi := ⟨some 44, _, _, _, _, _⟩) (v := ?v14) rfl (by kernel_rfl) (by kernel_rfl) (by kernel_rfl) (fun _ _ _ h => h) (Or.inl ⟨by rfl, ?hy14⟩) hHeld ?rr14
       case hy14 => (intro w hSw; (try dsimp only at hSw); go_simp; try with_reducible rfl))
    | (refine wpAnyH_take (i := 14) (oi := ⟨some 44, _, _, _, _, _⟩) (v := undef) rfl (by kernel_rfl) (by kernel_rfl) (by kernel_rfl) (fun _ _ _ h => h) (Or.inr ⟨by rfl, rfl⟩) hHeld ?rr14)
  try simp only [Act.put, List.setIfInBounds_toArray, List.set_cons_zero, List.set_cons_succ]
  first
    | (refine wpAnyH_take (i := 15) (oi := ⟨some 45, _, _, _, _, _⟩) (v := ?v15) rfl (by kernel_rfl) (by kernel_rfl) (by kernel_rfl) (fun _ _ _ h => h) (Or.inl ⟨by rfl, ?hy15⟩) hHeld ?rr15
       case hy15 => (intro w hSw; (try dsimp only at hSw); go_simp; try with_reducible rfl))
    | (refine wpAnyH_take (i := 15) (oi := ⟨some 45, _, _, _, _, _⟩) (v := undef) rfl (by kernel_rfl) (by kernel_rfl) (by kernel_rfl) (fun _ _ _ h => h) (Or.inr ⟨by rfl, rfl⟩) hHeld ?rr15)
  try simp only [Act.put, List.setIfInBounds_toArray, List.set_cons_zero, List.set_cons_succ]
  first
    | (refine wpAnyH_take (i := 16) (oi := ⟨some 46, _, _, _, _, _⟩) (v := ?v16) rfl (by kernel_rfl) (by kernel_rfl) (by kernel_rfl) (fun _ _ _ h => h) (Or.inl ⟨by rfl, ?hy16⟩) hHeld ?rr16
       case hy16 => (intro w hSw; (try dsimp only at hSw); go_simp; try with_reducible rfl))
    | (refine wpAnyH_take (i := 16) (oi := ⟨some 46, _, _, _, _, _⟩) (v := undef) rfl (by kernel_rfl) (by kernel_rfl) (by kernel_rfl) (fun _ _ _ h => h) (Or.inr ⟨by rfl, rfl⟩) hHeld ?rr16)
  try simp only [Act.put, List.setIfInBounds_toArray, List.set_cons_zero, List.set_cons_succ]
  first
    | (refine wpAnyH_take (i := 17) (oi := ⟨some 47, _, _, _, _, _⟩) (v := ?v17) rfl (by kernel_rfl) (by kernel_rfl) (by kernel_rfl) (fun _ _ _ h => h) (Or.inl ⟨by rfl, ?hy17⟩) hHeld ?rr17
       case hy17 => (intro w hSw; (try dsimp only at hSw); go_simp; try with_reducible rfl))
    | (refine wpAnyH_take (i := 17) (oi := ⟨some 47, _, _, _, _, _⟩) (v := undef) rfl (by kernel_rfl) (by kernel_rfl) (by kernel_rfl) (fun _ _ _ h => h) (Or.inr ⟨by rfl, rfl⟩) hHeld ?rr17)
  try simp only [Act.put, List.setIfInBounds_toArray, List.set_cons_zero, List.set_cons_succ]
  first
    | (refine wpAnyH_take (i := 18) (oi := ⟨some 48, _, _, _, _, _⟩) (v := ?v18) rfl (by kernel_rfl) (by kernel_rfl) (by kernel_rfl) (fun _ _ _ h => h) (Or.inl ⟨by rfl, ?hy18⟩) hHeld ?rr18
       case hy18 => (intro w hSw; (try dsimp only at hSw); go_simp; try with_reducible rfl))
    | (refine wpAnyH_take (i := 18) (oi := ⟨some 48, _, _, _, _, _⟩) (v := undef) rfl (by kernel_rfl) (by kernel_rfl) (by kernel_rfl) (fun _ _ _ h => h) (Or.inr ⟨by rfl, rfl⟩) hHeld ?rr18)
  try simp only [Act.put, List.setIfInBounds_toArray, List.set_cons_zero, List.set_cons_succ]
  first
    | (refine wpAnyH_take (i := 19) (oi := ⟨some 49, _, _, _, _, _⟩) (v := ?v19) rfl (by kernel_rfl) (by kernel_rfl) (by kernel_rfl) (fun _ _ _ h => h) (Or.inl ⟨by rfl, ?hy19⟩) hHeld ?rr19
       case hy19 => (intro w hSw; (try dsimp only at hSw); go_simp; try with_reducible rfl))
    | (refine wpAnyH_take (i := 19) (oi := ⟨some 49, _, _, _, _, _⟩) (v := undef) rfl (by kernel_rfl) (by kernel_rfl) (by kernel_rfl) (fun _ _ _ h => h) (Or.inr ⟨by rfl, rfl⟩) hHeld ?rr19)
  try simp only [Act.put, List.setIfInBounds_toArray, List.set_cons_zero, List.set_cons_succ]
  first
    | (refine wpAnyH_take (i := 20) (oi := ⟨some 50, _, _, _, _, _⟩) (v := ?v20) rfl (by kernel_rfl) (by kernel_rfl) (by kernel_rfl) (fun _ _ _ h => h) (Or.inl ⟨by rfl, ?hy20⟩) hHeld ?rr20
       case hy20 => (intro w hSw; (try dsimp only at hSw); go_simp; try with_reducible rfl))
    | (refine wpAnyH_take (i := 20) (oi := ⟨some 50, _, _, _, _, _⟩) (v := undef) rfl (by kernel_rfl) (by kernel_rfl) (by kernel_rfl) (fun _ _ _ h => h) (Or.inr ⟨by rfl, rfl⟩) hHeld ?rr20)
  try simp only [Act.put, List.setIfInBounds_toArray, List.set_cons_zero, List.set_cons_succ]
  first
    | (refine wpAnyH_take (i := 22) (oi := ⟨some 52, _, _, _, _, _⟩) (v := ?v22) rfl (by kernel_rfl) (by kernel_rfl) (by kernel_rfl) (fun _ _ _ h => h) (Or.inl ⟨by rfl, ?hy22⟩) hHeld ?rr22
       case hy22 => (intro w hSw; (try dsimp only at hSw); go_simp; try with_reducible rfl))
    | (refine wpAnyH_take (i := 22) (oi := ⟨some 52, _, _, _, _, _⟩) (v := undef) rfl (by kernel_rfl) (by kernel_rfl) (by kernel_rfl) (fun _ _ _ h => h) (Or.inr ⟨by rfl, rfl⟩) hHeld ?rr22)
  try simp only [Act.put, List.setIfInBounds_toArray, List.set_cons_zero, List.set_cons_succ]
  first
    | (refine wpAnyH_take (i := 23) (oi := ⟨some 53, _, _, _, _, _⟩) (v := ?v23) rfl (by kernel_rfl) (by kernel_rfl) (by kernel_rfl) (fun _ _ _ h => h) (Or.inl ⟨by rfl, ?hy23⟩) hHeld ?rr23
       case hy23 => (intro w hSw; (try dsimp only at hSw); go_simp; try with_reducible rfl))
    | (refine wpAnyH_take (i := 23) (oi := ⟨some 53, _, _, _, _, _⟩) (v := undef) rfl (by kernel_rfl) (by kernel_rfl) (by kernel_rfl) (fun _ _ _ h => h) (Or.inr ⟨by rfl, rfl⟩) hHeld ?rr23)
  try simp only [Act.put, List.setIfInBounds_toArray, List.set_cons_zero, List.set_cons_succ]
  first
    | (refine wpAnyH_take (i := 24) (oi := ⟨some 54, _, _, _, _, _⟩) (v := ?v24) rfl (by kernel_rfl) (by kernel_rfl) (by kernel_rfl) (fun _ _ _ h => h) (Or.inl ⟨by rfl, ?hy24⟩) hHeld ?rr24
       case hy24 => (intro w hSw; (try dsimp only at hSw); go_simp; try with_reducible rfl))
    | (refine wpAnyH_take (i := 24) (oi := ⟨some 54, _, _, _, _, _⟩) (v := undef) rfl (by kernel_rfl) (by kernel_rfl) (by kernel_rfl) (fun _ _ _ h => h) (Or.inr ⟨by rfl, rfl⟩) hHeld ?rr24)
  try simp only [Act.put, List.setIfInBounds_toArray, List.set_cons_zero, List.set_cons_succ]
  first
    | (refine wpAnyH_take (i := 25) (oi := ⟨some 55, _, _, _, _, _⟩) (v := ?v25) rfl (by kernel_rfl) (by kernel_rfl) (by kernel_rfl) (fun _ _ _ h => h) (Or.inl ⟨by rfl, ?hy25⟩) hHeld ?rr25
       case hy25 => (intro w hSw; (try dsimp only at hSw); go_simp; try with_reducible rfl))
    | (refine wpAnyH_take (i := 25) (oi := ⟨some 55, _, _, _, _, _⟩) (v := undef) rfl (by kernel_rfl) (by kernel_rfl) (by kernel_rfl) (fun _ _ _ h => h) (Or.inr ⟨by rfl, rfl⟩) hHeld ?rr25)
  try simp only [Act.put, List.setIfInBounds_toArray, List.set_cons_zero, List.set_cons_succ]
  refine wpAnyH_ready (rs := [21]) (by kernel_rfl) (by simp) ?_
  refine AllReadyH.cons (o := ⟨some 51, _, _, _, _, _⟩) rfl (fun K hK => ?_) AllReadyH.nil
  go_simp
  refine (to_any _ _ _ _ _ _).mono ?_
  rintro e w' ⟨rfl, rfl⟩
  rw [Hv.out.2.2.1]
  refine hK.out _ _ (⟨cell_alloc x0 _, cell_alloc x1 _, cell_alloc x2 _, cell_alloc x3 _⟩) (fun hHeld2 => ?_)
  clear hK K hHeld
  have hHeld := hHeld2
  clear hHeld2
  try simp only [Act.put, List.setIfInBounds_toArray, List.set_cons_zero, List.set_cons_succ]
  first
    | (refine wpAnyH_take (i := 26) (oi := ⟨some 56, _, _, _, _, _⟩) (v := ?v26) rfl (by kernel_rfl) (by kernel_rfl) (by kernel_rfl) (fun _ _ _ h => h) (Or.inl ⟨by rfl, ?hy26⟩) hHeld ?rr26
       case hy26 => (intro w hSw; (try dsimp only at hSw); go_simp; try with_reducible rfl))
    | (refine wpAnyH_take (i := 26) (oi := ⟨some 56, _, _, _, _, _⟩) (v := undef) rfl (by kernel_rfl) (by kernel_rfl) (by kernel_rfl) (fun _ _ _ h => h) (Or.inr ⟨by rfl, rfl⟩) hHeld ?rr26)
  try simp only [Act.put, List.setIfInBounds_toArray, List.set_cons_zero, List.set_cons_succ]
  first
    | (refine wpAnyH_take (i := 27) (oi := ⟨some 57, _, _, _, _, _⟩) (v := ?v27) rfl (by kernel_rfl) (by kernel_rfl) (by kernel_rfl) (fun _ _ _ h => h) (Or.inl ⟨by rfl, ?hy27⟩) hHeld ?rr27
       case hy27 => (intro w hSw; (try dsimp only at hSw); go_simp; try with_reducible rfl))
    | (refine wpAnyH_take (i := 27) (oi := ⟨some 57, _, _, _, _, _⟩) (v := undef) rfl (by kernel_rfl) (by kernel_rfl) (by kernel_rfl) (fun _ _ _ h => h) (Or.inr ⟨by rfl, rfl⟩) hHeld ?rr27)
  try simp only [Act.put, List.setIfInBounds_toArray, List.set_cons_zero, List.set_cons_succ]
  first
    | (refine wpAnyH_take (i := 28) (oi := ⟨some 6, _, _, _, _, _⟩) (v := ?v28) rfl (by kernel_rfl) (by kernel_rfl) (by kernel_rfl) (fun _ _ _ h => h) (Or.inl ⟨by rfl, ?hy28⟩) hHeld ?rr28
       case hy28 => (intro w hSw; (try dsimp only at hSw); go_simp; try with_reducible rfl))
    | (refine wpAnyH_take (i := 28) (oi := ⟨some 6, _, _, _, _, _⟩) (v := undef) rfl (by kernel_rfl) (by kernel_rfl) (by kernel_rfl) (fun _ _ _ h => h) (Or.inr ⟨by rfl, rfl⟩) hHeld ?rr28)
  try simp only [Act.put, List.setIfInBounds_toArray, List.set_cons_zero, List.set_cons_succ]
  refine wpAnyH_done (by kernel_rfl) ?_ _
  refine NoPanic.normal ?_
  have hB8 : Below w.heap.size w (w6.alloc (fo 65535 B C T)).drew := (hB7.alloc hB7.size _).drew
  go_wp2
  go_ret
  exact ⟨rfl, hB8⟩

theorem walk_LinkDelivery (a b c : Int) (s : ByteArray) (p q : Int) (w : World) (a1 : -9223372036854775808 ≤ a) (a2 : a ≤ 9223372036854775807) (b1 : -9223372036854775808 ≤ b) (b2 : b ≤ 9223372036854775807) (c1 : -9223372036854775808 ≤ c) (c2 : c ≤ 9223372036854775807) (hs : s.size ≤ maxLen) (p1 : -9223372036854775808 ≤ p) (p2 : p ≤ 9223372036854775807) (q1 : -9223372036854775808 ≤ q) (q2 : q ≤ 9223372036854775807) (E : ∃ ea, Env w ea) :
    Calls Tryd.prog 9 #[fv a b c s, .int .i64 p, .int .i64 q] w fun e w' => e = .returned (.bool true) ∧ Below w.heap.size w w' := by
  obtain ⟨ea, E⟩ := E
  by_cases e1 : 1 + pickZ p 65534 = 1 + pickZ q 65534
  · by_cases e2 : 1 + pickZ q 65534 = 1 + pickZ b 65534
    · exact dl_tt a b c s p q w a1 a2 b1 b2 c1 c2 hs p1 p2 q1 q2 e1 e2 ea E
    · exact dl_tf a b c s p q w a1 a2 b1 b2 c1 c2 hs p1 p2 q1 q2 e1 e2 ea E
  · by_cases e2 : 1 + pickZ q 65534 = 1 + pickZ b 65534
    · exact dl_ft a b c s p q w a1 a2 b1 b2 c1 c2 hs p1 p2 q1 q2 e1 e2 ea E
    · exact dl_ff a b c s p q w a1 a2 b1 b2 c1 c2 hs p1 p2 q1 q2 e1 e2 ea E
end Go.Proofs.YtgfldbllokbnaaaDoor

/- The walk of LinkRoundTrip. -/
import Derived.Test.YtgfldbllokbnaaaDoorLkSane
import Derived.Test.YtgfldbllokbnaaaDoorLkLf
import Derived.Deep.RegionHeld3
import Derived.BigRegion
namespace Go.Proofs.YtgfldbllokbnaaaDoor
open Go.RowKit
attribute [local go_sem] Oper.semAt_some

set_option maxRecDepth 100000 in
set_option maxHeartbeats 1600000 in
theorem walk_LinkRoundTrip (a b c : Int) (s : ByteArray)  (w : World) (a1 : -9223372036854775808 ≤ a) (a2 : a ≤ 9223372036854775807) (b1 : -9223372036854775808 ≤ b) (b2 : b ≤ 9223372036854775807) (c1 : -9223372036854775808 ≤ c) (c2 : c ≤ 9223372036854775807) (hs : s.size ≤ maxLen)  (E : ∃ ea, Env w ea) :
    Calls Tryd.prog 4 #[fv a b c s] w fun e w' => e = .returned (.bool true) ∧ Below w.heap.size w w' := by
  obtain ⟨ea, E⟩ := E
  go_enter Tryd.func4, Tryd.ntmps4
  go_wp2_with fail
  have E0 : Env (w.alloc (fo a b c s)) ea := cell_alloc E _
  refine (sane_any _ ea E0).mono ?_
  rintro e w1 ⟨rfl, hb1⟩
  have hB1 : Below w.heap.size w w1 := ((Below.refl _ w).alloc (Nat.le_refl _) _).trans (hb1.mono (by simp))
  have hf1 := blk_below (blk_new w (fo a b c s)) hb1 (by simp)
  have E1 := E.stay hB1
  clear hb1 E0 E
  have x0 := (blk_cell (k := 0) hf1 rfl).1
  have x1 := (blk_cell (k := 1) hf1 rfl).1
  have x2 := (blk_cell (k := 2) hf1 rfl).1
  have x3 := (blk_cell (k := 3) hf1 rfl).1
  simp only [List.getElem_toArray, List.getElem_cons_zero, List.getElem_cons_succ] at x0 x1 x2 x3
  go_wp2_with fail
  refine (frame_law a b c s _ a1 a2 b1 b2 c1 c2 hs).mono ?_
  rintro e w2 ⟨rfl, hb2⟩
  have hB2 := hB1.trans (hb2.mono hB1.size)
  have E2 := E1.stay hb2
  have hok := okF_pick a b c s
  clear hb2 E1 x0 x1 x2 x3 hf1
  revert hok
  generalize 1 + pickZ a 65535 = A
  generalize 1 + pickZ b 65534 = B
  generalize 1 + pickZ c 2 = C
  generalize cutK s = T
  intro hok
  have hT : T.size ≤ 1024 := hok.2.2.2.2.2
  go_wp2_with fail
  refine (encode_yes A B C T _ hok).mono ?_
  rintro e w3 ⟨rfl, hb3⟩
  have hB3 := hB2.trans ((((Below.refl _ w2).alloc (Nat.le_refl _) (fo A B C T)).trans (hb3.mono (by simp))).mono hB2.size)
  have hf3 := blk_below (blk_new w2 (fo A B C T)) hb3 (by simp)
  have E3 : Env w3 ea := E2.stay (((Below.refl _ w2).alloc (Nat.le_refl _) (fo A B C T)).trans (hb3.mono (by simp)))
  have hde := decode_enc A B C T w3 ea E3 hok
  have hz := enc_size A B C T
  clear hb3 E2
  revert hde hz
  generalize encS A B C T = S
  intro hde hz
  have Hde := Lib.hid hde
  clear hde
  go_wp2_with fail
  refine Hde.out.mono ?_
  rintro e w4 ⟨rfl, hb4⟩
  have hB4 := hB3.trans (hb4.mono hB3.size)
  have hf4 := blk_alloc (blk_below hf3 hb4 (blk_lt hf3)) (fo A B C T)
  have hB5 := hB4.alloc hB4.size (fo A B C T)
  clear Hde hb4 hf3
  have x0 := (blk_cell (k := 0) hf4 rfl).1
  have x1 := (blk_cell (k := 1) hf4 rfl).1
  have x2 := (blk_cell (k := 2) hf4 rfl).1
  have x3 := (blk_cell (k := 3) hf4 rfl).1
  simp only [List.getElem_toArray, List.getElem_cons_zero, List.getElem_cons_succ] at x0 x1 x2 x3
  go_wp2_with fail
  refine (valid_any _ _ _ _ _).mono ?_
  rintro e w5 ⟨rfl, hw5⟩
  have hB6 : Below w.heap.size w w5 := by rw [hw5]; exact hB5.alloc hB5.size _
  have hf5 := (congrArg (fun W : World => W.heap[w2.heap.size]?) hw5).trans (blk_alloc hf4 _)
  (try simp only at hf5)
  clear hw5 x0 x1 x2 x3
  have x0 := (blk_cell (k := 0) hf5 rfl).1
  have x1 := (blk_cell (k := 1) hf5 rfl).1
  have x2 := (blk_cell (k := 2) hf5 rfl).1
  have x3 := (blk_cell (k := 3) hf5 rfl).1
  simp only [List.getElem_toArray, List.getElem_cons_zero, List.getElem_cons_succ] at x0 x1 x2 x3
  rw [decide_eq_true hok]
  have hz' : (S.size : Int) = 11 + (T.size : Int) := by omega
  go_wp2
  go_ret
  exact ⟨rfl, hB6⟩
end Go.Proofs.YtgfldbllokbnaaaDoor

/- The walk of LinkCanonical. -/
import Derived.Test.YtgfldbllokbnaaaDoorLkSane
import Derived.Test.YtgfldbllokbnaaaDoorLkLf
import Derived.Deep.RegionHeld3
import Derived.BigRegion
namespace Go.Proofs.YtgfldbllokbnaaaDoor
open Go.RowKit
attribute [local go_sem] Oper.semAt_some

theorem Env.al {w : World} {ea : Addr} (E : Env w ea) (o : Obj) : Env (w.alloc o) ea := cell_alloc E _

set_option maxRecDepth 100000 in
set_option maxHeartbeats 1600000 in
theorem can_cut (s t : ByteArray) (w : World) (hs : s.size ≤ maxLen) (hk : 1100 < s.size) (hc : s.extract 0 1100 = t) (ht : t.size ≤ 1100) (ea : Addr) (E : Env w ea) :
    Calls Tryd.prog 5 #[.string s] w fun e w' => e = .returned (.bool true) ∧ Below w.heap.size w w' := by
  have k1 : (1100 : Int) ≤ (s.size : Int) := by omega
  have k2 : (1100 : Int) < (s.size : Int) := by omega
  have hs2 := hs
  unfold maxLen at hs2
  go_enter Tryd.func5, Tryd.ntmps5
  go_wp2_with fail
  refine (sane_any _ ea E).mono ?_
  rintro e w1 ⟨rfl, hb1⟩
  have E1 := E.stay hb1
  by_cases hd : decC t
  · have hT : (t.extract 7 (t.size - 4)).size = t.size - 11 := by
      rw [ByteArray.size_extract]; omega
    have hok := hd.2.2.1
    have hed := enc_dec t hd
    rw [← hT] at hok
    have Hdo := Lib.hid (decode_ok t w1 ea E1 (by unfold maxLen; omega) hd)
    revert hok hed Hdo
    generalize rdV t 0 2 = A
    generalize rdV t 2 2 = B
    generalize rdV t 4 1 = C
    generalize t.extract 7 (t.size - 4) = T
    intro hok hed Hdo
    clear hT hd
    go_wp2_with fail
    refine Hdo.out.mono ?_
    rintro e w2 ⟨rfl, hb2⟩
    have hB2 := hb1.trans (hb2.mono hb1.size)
    have hB3 := hB2.alloc hB2.size (fo A B C T)
    clear Hdo hb2 E1
    go_wp2_with fail
    refine (encode_yes A B C T _ hok).mono ?_
    rintro e w4 ⟨rfl, hb4⟩
    rw [hed]
    have hB4 := hB3.trans (hb4.mono hB3.size)
    have hf4 := blk_below (blk_new w2 (fo A B C T)) hb4 (by simp)
    clear hb4 hed
    have x0 := (blk_cell (k := 0) hf4 rfl).1
    have x1 := (blk_cell (k := 1) hf4 rfl).1
    have x2 := (blk_cell (k := 2) hf4 rfl).1
    have x3 := (blk_cell (k := 3) hf4 rfl).1
    simp only [List.getElem_toArray, List.getElem_cons_zero, List.getElem_cons_succ] at x0 x1 x2 x3
    go_wp2_with fail
    refine (valid_any _ _ _ _ _).mono ?_
    rintro e w5 ⟨rfl, hw5⟩
    have hB6 : Below w.heap.size w w5 := by rw [hw5]; exact hB4.alloc hB4.size _
    clear hw5
    rw [decide_eq_true hok]
    go_wp2
    go_ret
    exact ⟨rfl, hB6⟩
  · have Hdn := Lib.hid (decode_no t w1 ea E1 (by unfold maxLen; omega) hd)
    clear hd
    go_wp2_with fail
    refine Hdn.out.mono ?_
    rintro e w2 ⟨rfl, hb2⟩
    have hB2 := hb1.trans (hb2.mono hb1.size)
    have hB3 := hB2.alloc hB2.size (fo 0 0 0 ⟨#[]⟩)
    clear Hdn hb2 E1
    go_wp2
    go_ret
    exact ⟨rfl, hB3⟩

set_option maxRecDepth 100000 in
set_option maxHeartbeats 1600000 in
theorem can_uncut (s t : ByteArray) (w : World) (hs : s.size ≤ maxLen) (hk : s.size ≤ 1100) (hc : t = s) (ht : t.size ≤ 1100) (ea : Addr) (E : Env w ea) :
    Calls Tryd.prog 5 #[.string s] w fun e w' => e = .returned (.bool true) ∧ Below w.heap.size w w' := by
  subst hc
  have k0 : (0 : Int) ≤ (t.size : Int) := by omega
  have k1 : (t.size : Int) ≤ 1100 := by omega
  have k2 : ((1100 : Int) < (t.size : Int)) = False := eq_false (by omega)
  have hs2 := hs
  unfold maxLen at hs2
  go_enter Tryd.func5, Tryd.ntmps5
  go_wp2_with fail
  refine (sane_any _ ea E).mono ?_
  rintro e w1 ⟨rfl, hb1⟩
  have E1 := E.stay hb1
  by_cases hd : decC t
  · have hT : (t.extract 7 (t.size - 4)).size = t.size - 11 := by
      rw [ByteArray.size_extract]; omega
    have hok := hd.2.2.1
    have hed := enc_dec t hd
    rw [← hT] at hok
    have Hdo := Lib.hid (decode_ok t w1 ea E1 (by unfold maxLen; omega) hd)
    revert hok hed Hdo
    generalize rdV t 0 2 = A
    generalize rdV t 2 2 = B
    generalize rdV t 4 1 = C
    generalize t.extract 7 (t.size - 4) = T
    intro hok hed Hdo
    clear hT hd
    go_wp2_with fail
    refine Hdo.out.mono ?_
    rintro e w2 ⟨rfl, hb2⟩
    have hB2 := hb1.trans (hb2.mono hb1.size)
    have hB3 := hB2.alloc hB2.size (fo A B C T)
    clear Hdo hb2 E1
    go_wp2_with fail
    refine (encode_yes A B C T _ hok).mono ?_
    rintro e w4 ⟨rfl, hb4⟩
    rw [hed]
    have hB4 := hB3.trans (hb4.mono hB3.size)
    have hf4 := blk_below (blk_new w2 (fo A B C T)) hb4 (by simp)
    clear hb4 hed
    have x0 := (blk_cell (k := 0) hf4 rfl).1
    have x1 := (blk_cell (k := 1) hf4 rfl).1
    have x2 := (blk_cell (k := 2) hf4 rfl).1
    have x3 := (blk_cell (k := 3) hf4 rfl).1
    simp only [List.getElem_toArray, List.getElem_cons_zero, List.getElem_cons_succ] at x0 x1 x2 x3
    go_wp2_with fail
    refine (valid_any _ _ _ _ _).mono ?_
    rintro e w5 ⟨rfl, hw5⟩
    have hB6 : Below w.heap.size w w5 := by rw [hw5]; exact hB4.alloc hB4.size _
    clear hw5
    rw [decide_eq_true hok]
    go_wp2
    go_ret
    exact ⟨rfl, hB6⟩
  · have Hdn := Lib.hid (decode_no t w1 ea E1 (by unfold maxLen; omega) hd)
    clear hd
    go_wp2_with fail
    refine Hdn.out.mono ?_
    rintro e w2 ⟨rfl, hb2⟩
    have hB2 := hb1.trans (hb2.mono hb1.size)
    have hB3 := hB2.alloc hB2.size (fo 0 0 0 ⟨#[]⟩)
    clear Hdn hb2 E1
    go_wp2
    go_ret
    exact ⟨rfl, hB3⟩

theorem walk_LinkCanonical (s : ByteArray) (w : World) (hs : s.size ≤ maxLen) (E : ∃ ea, Env w ea) :
    Calls Tryd.prog 5 #[.string s] w fun e w' => e = .returned (.bool true) ∧ Below w.heap.size w w' := by
  obtain ⟨ea, E⟩ := E
  by_cases hk : 1100 < s.size
  · exact can_cut s _ w hs hk rfl (by rw [ByteArray.size_extract]; omega) ea E
  · exact can_uncut s s w hs (by omega) rfl (by omega) ea E
end Go.Proofs.YtgfldbllokbnaaaDoor

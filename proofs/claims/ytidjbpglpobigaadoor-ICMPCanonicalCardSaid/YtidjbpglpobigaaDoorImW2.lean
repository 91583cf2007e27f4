/- The walk of ICMPCanonical. -/
import Derived.Test.YtidjbpglpobigaaDoorImZ
namespace Go.Proofs.YtidjbpglpobigaaDoor
open Go.RowKit
set_option linter.unusedVariables false
attribute [local go_sem] Oper.semAt_some

set_option maxRecDepth 100000 in
set_option maxHeartbeats 1600000 in
theorem can_cut (s t : ByteArray) (w : World) (hs : s.size ≤ maxLen) (hk : 600 < s.size) (hc : s.extract 0 600 = t) (ht : t.size ≤ 600) (ea : Addr) (E : Env w ea) :
    Calls Tryd.prog 6 #[.string s] w fun e w' => e = .returned (.bool true) ∧ Below w.heap.size w w' := by
  have k1 : (600 : Int) ≤ (s.size : Int) := by omega
  have k2 : (600 : Int) < (s.size : Int) := by omega
  have hs2 := hs
  unfold maxLen at hs2
  go_enter Tryd.func6, Tryd.ntmps6
  go_wp2_with fail
  refine (msane_any _ ea E).mono ?_
  rintro e w1 ⟨rfl, hb1⟩
  have E1 := E.stay hb1
  by_cases hd : decM t
  · have hok := hd.2.1
    have hed := canonM t hd
    have Hdo := Lib.hid (mdecode_ok t w1 ea E1 (by unfold maxLen; omega) hd)
    revert hok hed Hdo
    generalize mkM t = M
    intro hok hed Hdo
    have HK := Lib.hid (okM_k hok)
    have hms := okM_room hok
    clear hd
    go_wp2_with fail
    refine Hdo.out.mono ?_
    rintro e w2 ⟨rfl, hb2⟩
    have hB2 := hb1.trans (hb2.mono hb1.size)
    have hB3 := hB2.alloc hB2.size (mo M)
    clear Hdo hb2 E1
    go_wp2_with fail
    refine (mencode_yes M hok _).mono ?_
    rintro e w4 ⟨rfl, hb4⟩
    rw [hed]
    have hB4 := hB3.trans (hb4.mono hB3.size)
    have hf4 := blk_below (blk_new w2 (mo M)) hb4 (by simp)
    clear hb4 hed
    have x0 := (blk_cell (k := 0) hf4 rfl).1
    have x1 := (blk_cell (k := 1) hf4 rfl).1
    have x2 := (blk_cell (k := 2) hf4 rfl).1
    have x3 := (blk_cell (k := 3) hf4 rfl).1
    simp only [List.getElem_toArray, List.getElem_cons_zero, List.getElem_cons_succ] at x0 x1 x2 x3
    go_wp2_with fail
    refine (mvalid_any M HK.out (by unfold maxLen; omega) _).mono ?_
    rintro e w5 ⟨rfl, hb5⟩
    have hB6 := hB4.trans (hb5.mono hB4.size)
    clear hb5
    rw [decide_eq_true hok]
    go_wp2
    go_ret
    exact ⟨rfl, hB6⟩
  · have Hdn := Lib.hid (mdecode_no t w1 ea E1 (by unfold maxLen; omega) hd)
    clear hd
    go_wp2_with fail
    refine Hdn.out.mono ?_
    rintro e w2 ⟨rfl, hb2⟩
    have hB2 := hb1.trans (hb2.mono hb1.size)
    have hB3 := hB2.alloc hB2.size (mo mz)
    clear Hdn hb2 E1
    go_wp2
    go_ret
    exact ⟨rfl, hB3⟩

set_option maxRecDepth 100000 in
set_option maxHeartbeats 1600000 in
theorem can_uncut (s t : ByteArray) (w : World) (hs : s.size ≤ maxLen) (hk : s.size ≤ 600) (hc : t = s) (ht : t.size ≤ 600) (ea : Addr) (E : Env w ea) :
    Calls Tryd.prog 6 #[.string s] w fun e w' => e = .returned (.bool true) ∧ Below w.heap.size w w' := by
  subst hc
  have k0 : (0 : Int) ≤ (t.size : Int) := by omega
  have k1 : (t.size : Int) ≤ 600 := by omega
  have k2 : ((600 : Int) < (t.size : Int)) = False := eq_false (by omega)
  have hs2 := hs
  unfold maxLen at hs2
  go_enter Tryd.func6, Tryd.ntmps6
  go_wp2_with fail
  refine (msane_any _ ea E).mono ?_
  rintro e w1 ⟨rfl, hb1⟩
  have E1 := E.stay hb1
  by_cases hd : decM t
  · have hok := hd.2.1
    have hed := canonM t hd
    have Hdo := Lib.hid (mdecode_ok t w1 ea E1 (by unfold maxLen; omega) hd)
    revert hok hed Hdo
    generalize mkM t = M
    intro hok hed Hdo
    have HK := Lib.hid (okM_k hok)
    have hms := okM_room hok
    clear hd
    go_wp2_with fail
    refine Hdo.out.mono ?_
    rintro e w2 ⟨rfl, hb2⟩
    have hB2 := hb1.trans (hb2.mono hb1.size)
    have hB3 := hB2.alloc hB2.size (mo M)
    clear Hdo hb2 E1
    go_wp2_with fail
    refine (mencode_yes M hok _).mono ?_
    rintro e w4 ⟨rfl, hb4⟩
    rw [hed]
    have hB4 := hB3.trans (hb4.mono hB3.size)
    have hf4 := blk_below (blk_new w2 (mo M)) hb4 (by simp)
    clear hb4 hed
    have x0 := (blk_cell (k := 0) hf4 rfl).1
    have x1 := (blk_cell (k := 1) hf4 rfl).1
    have x2 := (blk_cell (k := 2) hf4 rfl).1
    have x3 := (blk_cell (k := 3) hf4 rfl).1
    simp only [List.getElem_toArray, List.getElem_cons_zero, List.getElem_cons_succ] at x0 x1 x2 x3
    go_wp2_with fail
    refine (mvalid_any M HK.out (by unfold maxLen; omega) _).mono ?_
    rintro e w5 ⟨rfl, hb5⟩
    have hB6 := hB4.trans (hb5.mono hB4.size)
    clear hb5
    rw [decide_eq_true hok]
    go_wp2
    go_ret
    exact ⟨rfl, hB6⟩
  · have Hdn := Lib.hid (mdecode_no t w1 ea E1 (by unfold maxLen; omega) hd)
    clear hd
    go_wp2_with fail
    refine Hdn.out.mono ?_
    rintro e w2 ⟨rfl, hb2⟩
    have hB2 := hb1.trans (hb2.mono hb1.size)
    have hB3 := hB2.alloc hB2.size (mo mz)
    clear Hdn hb2 E1
    go_wp2
    go_ret
    exact ⟨rfl, hB3⟩

theorem walk_ICMPCanonical (s : ByteArray) (w : World) (hs : s.size ≤ maxLen) (E : ∃ ea, Env w ea) :
    Calls Tryd.prog 6 #[.string s] w fun e w' => e = .returned (.bool true) ∧ Below w.heap.size w w' := by
  obtain ⟨ea, E⟩ := E
  by_cases hk : 600 < s.size
  · exact can_cut s _ w hs hk rfl (by rw [ByteArray.size_extract]; omega) ea E
  · exact can_uncut s s w hs (by omega) rfl (by omega) ea E
end Go.Proofs.YtidjbpglpobigaaDoor

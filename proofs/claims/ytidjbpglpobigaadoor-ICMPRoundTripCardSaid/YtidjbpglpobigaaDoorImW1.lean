/- The walk of ICMPRoundTrip. -/
import Derived.Test.YtidjbpglpobigaaDoorImPk
namespace Go.Proofs.YtidjbpglpobigaaDoor
open Go.RowKit
set_option linter.unusedVariables false
attribute [local go_sem] Oper.semAt_some

set_option maxRecDepth 100000 in
set_option maxHeartbeats 3200000 in
theorem walk_ICMPRoundTrip (a b c : Int) (s : ByteArray) (w : World) (ha1 : -9223372036854775808 ≤ a) (ha2 : a ≤ 9223372036854775807) (hb1 : -9223372036854775808 ≤ b) (hb2 : b ≤ 9223372036854775807) (hc1 : -9223372036854775808 ≤ c) (hc2 : c ≤ 9223372036854775807) (hs : s.size ≤ maxLen) (E : ∃ ea, Env w ea) :
    Calls Tryd.prog 5 #[.agg #[.int .i64 a, .int .i64 b, .int .i64 c, .string s]] w fun e w' => e = .returned (.bool true) ∧ Below w.heap.size w w' := by
  obtain ⟨ea, E⟩ := E
  have HM := Lib.hid (fun w => msg_any a b c s ⟨ha1, ha2⟩ ⟨hb1, hb2⟩ ⟨hc1, hc2⟩ hs w)
  have hok := msgK_ok a b c s
  generalize msgK a b c s = M at *
  have hms := okM_room hok
  have hez := encM_size M
  have HE := Lib.hid (mencode_yes M hok)
  have HD := Lib.hid (fun w E => mdecode_enc M w ea E hok)
  have HV := Lib.hid (mvalid_any M (okM_k hok) (by unfold maxLen; omega))
  have HO := Lib.hid (decide_eq_true hok)
  generalize encM M = S at *
  clear ha1 ha2 hb1 hb2 hc1 hc2 hs hok
  go_enter Tryd.func5, Tryd.ntmps5
  go_wp2_with fail
  refine (msane_any _ ea (cell_alloc E _)).mono ?_
  rintro e w1 ⟨rfl, hb⟩
  have hB0 : Below w.heap.size w (w.alloc (mo ⟨a, b, c, s⟩)) := (Below.refl _ w).alloc (Nat.le_refl _) _
  have hx := blk_below (blk_new w (mo ⟨a, b, c, s⟩)) hb (by simp)
  have hB := hB0.trans (hb.mono hB0.size)
  clear hb hB0
  obtain ⟨x0, -⟩ := blk_cell (k := 0) hx rfl
  obtain ⟨x1, -⟩ := blk_cell (k := 1) hx rfl
  obtain ⟨x2, -⟩ := blk_cell (k := 2) hx rfl
  obtain ⟨x3, -⟩ := blk_cell (k := 3) hx rfl
  simp only [List.getElem_toArray, List.getElem_cons_zero, List.getElem_cons_succ] at x0 x1 x2 x3
  go_wp2_with fail
  refine (HM.out _).mono ?_
  rintro e w2 ⟨rfl, hb⟩
  replace hB := hB.trans (hb.mono hB.size)
  clear hb x0 x1 x2 x3 hx
  have hm := blk_new w2 (mo M)
  replace hB := hB.alloc hB.size (mo M)
  go_wp2_with fail
  refine (HE.out _).mono ?_
  rintro e w3 ⟨rfl, hb⟩
  replace hB := hB.trans (hb.mono hB.size)
  replace hm := blk_below hm hb (blk_lt hm)
  clear hb
  go_wp2_with fail
  refine (HD.out _ (E.stay hB)).mono ?_
  rintro e w4 ⟨rfl, hb⟩
  replace hB := hB.trans (hb.mono hB.size)
  replace hm := blk_below hm hb (blk_lt hm)
  clear hb
  have hm2 := blk_alloc hm (mo M)
  obtain ⟨y0, -⟩ := blk_cell (k := 0) hm2 rfl
  obtain ⟨y1, -⟩ := blk_cell (k := 1) hm2 rfl
  obtain ⟨y2, -⟩ := blk_cell (k := 2) hm2 rfl
  obtain ⟨y3, -⟩ := blk_cell (k := 3) hm2 rfl
  simp only [mo, List.getElem_toArray, List.getElem_cons_zero, List.getElem_cons_succ] at y0 y1 y2 y3
  have hB5 := hB.alloc hB.size (mo M)
  go_wp2_with fail
  refine (HV.out _).mono ?_
  rintro e w5 ⟨rfl, hb⟩
  replace hm2 := blk_below hm2 hb (blk_lt hm2)
  clear y0 y1 y2 y3
  obtain ⟨y3, -⟩ := blk_cell (k := 3) hm2 rfl
  simp only [List.getElem_toArray, List.getElem_cons_zero, List.getElem_cons_succ] at y3
  rw [HO.out]
  go_wp2
  go_ret
  exact ⟨rfl, hB5.trans (hb.mono hB5.size)⟩
end Go.Proofs.YtidjbpglpobigaaDoor

/- The walk of ICMPQuotesDatagram. -/
import Derived.Test.YtidjbpglpobigaaDoorImW6n
import Derived.Test.YtidjbpglpobigaaDoorIpPkf
import Derived.Deep.RegionHeld3
import Derived.Deep.DeepCutAuto
namespace Go.Proofs.YtidjbpglpobigaaDoor
open Go.RowKit
set_option linter.unusedVariables false
attribute [local go_sem] Oper.semAt_some



set_option maxRecDepth 100000 in
set_option maxHeartbeats 6400000 in
theorem quo_0 (x : Rw) (which : Int) (w : World) (hx : x.ok) (l1 : -9223372036854775808 ≤ which) (u1 : which ≤ 9223372036854775807) (ea : Addr) (E : Env w ea) (hq : pickZ which 4 = 0) :
    Calls Tryd.prog 8 #[rv x, .int .i64 which] w fun e w' => e = .returned (.bool true) ∧ Below w.heap.size w w' := by
  have hB := (Below.refl _ w).alloc (Nat.le_refl _) (ro x)
  have hX := blk_new w (ro x)
  have HP := Lib.hid (fun w => pick8_any which 4 w l1 u1 (by omega) (by omega))
  rw [hq] at HP
  clear hq l1 u1
  go_enter Tryd.func8, Tryd.ntmps8
  go_wp2_with fail
  refine (msane_any _ ea (cell_alloc E _)).mono ?_
  rintro e w1 ⟨rfl, hb⟩
  replace hB := hB.trans (hb.mono hB.size)
  replace hX := blk_below hX hb (blk_lt hX)
  clear hb E
  obtain ⟨x0, -⟩ := blk_cell (k := 0) hX rfl
  obtain ⟨x1, -⟩ := blk_cell (k := 1) hX rfl
  obtain ⟨x2, -⟩ := blk_cell (k := 2) hX rfl
  obtain ⟨x3, -⟩ := blk_cell (k := 3) hX rfl
  obtain ⟨x4, -⟩ := blk_cell (k := 4) hX rfl
  obtain ⟨x5, -⟩ := blk_cell (k := 5) hX rfl
  obtain ⟨x6, -⟩ := blk_cell (k := 6) hX rfl
  obtain ⟨x7, -⟩ := blk_cell (k := 7) hX rfl
  obtain ⟨x8, -⟩ := blk_cell (k := 8) hX rfl
  simp only [List.getElem_toArray, List.getElem_cons_zero, List.getElem_cons_succ] at x0 x1 x2 x3 x4 x5 x6 x7 x8
  go_wp2_with fail
  refine (packet_any x hx _).mono ?_
  rintro e w2 ⟨⟨p0, rfl, hp, hp300⟩, hb⟩
  replace hB := hB.trans (hb.mono hB.size)
  clear hb hX
  clear x0 x1 x2 x3 x4 x5 x6 x7 x8
  obtain ⟨fr, dst, pr, tt, id, df, mf, off, ps⟩ := p0
  simp only at hp hp300
  have hP := blk_new w2 (po (⟨fr, dst, pr, tt, id, df, mf, off, ps⟩ : Pk))
  replace hB := hB.alloc hB.size (po (⟨fr, dst, pr, tt, id, df, mf, off, ps⟩ : Pk))
  have hpm : ps.size ≤ maxLen := Nat.le_trans hp300 (by decide)
  go_wp2_with (go_at_call 23; refine (HP.out _).mono ?_; rintro e w3 ⟨rfl, rfl⟩)
  have hn0 : numK 3 2 0 := by unfold numK; omega
  have hB3 : ∀ o o2 o3, Below w.heap.size w ((((w2.alloc (po (⟨fr, dst, pr, tt, id, df, mf, off, ps⟩ : Pk))).alloc o).alloc o2).alloc o3) := fun o o2 o3 => ((hB.alloc hB.size o).alloc (hB.alloc hB.size o).size o2).alloc ((hB.alloc hB.size o).alloc (hB.alloc hB.size o).size o2).size o3
  have hP3 : ∀ o o2 o3, ((((w2.alloc (po (⟨fr, dst, pr, tt, id, df, mf, off, ps⟩ : Pk))).alloc o).alloc o2).alloc o3).heap[w2.heap.size]? = some (po (⟨fr, dst, pr, tt, id, df, mf, off, ps⟩ : Pk)) := fun o o2 o3 => blk_alloc (blk_alloc (blk_alloc hP o) o2) o3
  clear hB hP
  by_cases ho : neO 3 2 0 (⟨fr, dst, pr, tt, id, df, mf, off, ps⟩ : Pk)
  · have h7 : (off != 0) = false := by have := ho.2.1; simp only at this; simp [this]
    have h8 : (dst == 4294967295) = false := by have := ho.2.2.1; simpa using this
    have HN := Lib.hid (mnew_yes 3 2 0 (by unfold b64i; omega) (⟨fr, dst, pr, tt, id, df, mf, off, ps⟩ : Pk) ho)
    have hokE := ho.2.2.2.2
    have hsz := neM_size 3 2 0 (⟨fr, dst, pr, tt, id, df, mf, off, ps⟩ : Pk)
    obtain ⟨cut1, cut2⟩ := enc_cut (⟨fr, dst, pr, tt, id, df, mf, off, ps⟩ : Pk) hp (min (20 + ps.size) 28) (by omega) (by simp only; omega)
    have HSP := Lib.hid (encode_yes (⟨fr, dst, pr, tt, id, df, mf, off, ps⟩ : Pk) hpm hp)
    have hzp := enc_size (⟨fr, dst, pr, tt, id, df, mf, off, ps⟩ : Pk)
    simp only at hzp
    obtain ⟨X, hX⟩ : ∃ X, (encP (⟨fr, dst, pr, tt, id, df, mf, off, ps⟩ : Pk)).extract 0 (min (20 + ps.size) 28) = X := ⟨_, rfl⟩
    have hM : neM 3 2 0 (⟨fr, dst, pr, tt, id, df, mf, off, ps⟩ : Pk) = ⟨3, 2, 0, X⟩ := by rw [← hX]; rfl
    rw [hM] at HN hokE hsz
    rw [hX] at cut1 cut2
    have HQ := Lib.hid (mquoted_yes ⟨3, 2, 0, X⟩ (by show b64i 3; unfold b64i; omega) (Nat.le_trans hsz (by decide)) hokE cut2)
    rw [show (⟨3, 2, 0, X⟩ : Ms).s = X from rfl, cut1] at HQ
    obtain ⟨qs, hqs⟩ : ∃ qs, ps.extract 0 (min (20 + ps.size) 28 - 20) = qs := ⟨_, rfl⟩
    have HQ2 : Hid (∀ w : World, Calls Tryd.prog 18 #[mv ⟨3, 2, 0, X⟩] w fun e w' => e = .returned (.tuple #[pv (⟨fr, dst, pr, tt, id, df, mf, off, qs⟩ : Pk), .bool true]) ∧ Below w.heap.size w w') := by
      rw [← hqs]; exact HQ.out
    have HE := Lib.hid (mencode_yes ⟨3, 2, 0, X⟩ hokE.2)
    have hez := encM_size ⟨3, 2, 0, X⟩
    have hfb := fb_enc ⟨3, 2, 0, X⟩ hokE.2
    have HA := Lib.hid (mnew_no 3 2 0 (by unfold b64i; omega) (⟨1, fr, 1, 5, 0, false, false, 0, encM ⟨3, 2, 0, X⟩⟩ : Pk) (by show (encM _).size ≤ maxLen; rw [hez]; exact Nat.le_trans (Nat.add_le_add_left hsz 8) (by decide)) (fun h => h.2.2.2.1 ⟨rfl, by show 0 < (encM _).size; rw [hez]; omega, by show errK (fb (encM _)); rw [hfb]; exact hokE.1⟩))
    generalize encM ⟨3, 2, 0, X⟩ = S at *
    clear HQ hez hfb hsz hokE hM cut1 cut2 hqs ho hp
    generalize encP (⟨fr, dst, pr, tt, id, df, mf, off, ps⟩ : Pk) = SP at *
    go_wp2_with fail
    refine (HN.out _).mono ?_
    rintro e w4 ⟨rfl, hb⟩
    have hB := ((hB3 _ _ _).trans (hb.mono (hB3 _ _ _).size)).alloc ((hB3 _ _ _).trans (hb.mono (hB3 _ _ _).size)).size (mo ⟨3, 2, 0, X⟩)
    have hP := blk_alloc (blk_below (hP3 _ _ _) hb (blk_lt (hP3 _ _ _))) (mo ⟨3, 2, 0, X⟩)
    have hM := blk_new w4 (mo ⟨3, 2, 0, X⟩)
    clear hb hB3 hP3 HN
    obtain ⟨c0, -⟩ := blk_cell (k := 0) hP rfl
    obtain ⟨c1, -⟩ := blk_cell (k := 1) hP rfl
    obtain ⟨c2, -⟩ := blk_cell (k := 2) hP rfl
    obtain ⟨c3, -⟩ := blk_cell (k := 3) hP rfl
    obtain ⟨c4, -⟩ := blk_cell (k := 4) hP rfl
    obtain ⟨c5, -⟩ := blk_cell (k := 5) hP rfl
    obtain ⟨c6, -⟩ := blk_cell (k := 6) hP rfl
    obtain ⟨c7, -⟩ := blk_cell (k := 7) hP rfl
    obtain ⟨c8, -⟩ := blk_cell (k := 8) hP rfl
    simp only [List.getElem_toArray, List.getElem_cons_zero, List.getElem_cons_succ] at c0 c1 c2 c3 c4 c5 c6 c7 c8
    go_wp2_with fail
    refine (HQ2.out _).mono ?_
    rintro e w5 ⟨rfl, hb⟩
    have hwz5 := (hB.trans (hb.mono hB.size)).size
    have hPQ := blk_lt (blk_below hP hb (blk_lt hP))
    have hMQ := blk_lt (blk_below hM hb (blk_lt hM))
    replace hB := (hB.trans (hb.mono hB.size)).alloc (hB.trans (hb.mono hB.size)).size (po ⟨fr, dst, pr, tt, id, df, mf, off, qs⟩)
    replace hP := blk_alloc (blk_below hP hb (blk_lt hP)) (po ⟨fr, dst, pr, tt, id, df, mf, off, qs⟩)
    replace hM := blk_alloc (blk_below hM hb (blk_lt hM)) (po ⟨fr, dst, pr, tt, id, df, mf, off, qs⟩)
    have hQ := blk_new w5 (po ⟨fr, dst, pr, tt, id, df, mf, off, qs⟩)
    clear hb HQ2
    clear c0 c1 c2 c3 c4 c5 c6 c7 c8
    obtain ⟨c0, -⟩ := blk_cell (k := 0) hP rfl
    obtain ⟨c1, -⟩ := blk_cell (k := 1) hP rfl
    obtain ⟨c2, -⟩ := blk_cell (k := 2) hP rfl
    obtain ⟨c3, -⟩ := blk_cell (k := 3) hP rfl
    obtain ⟨c4, -⟩ := blk_cell (k := 4) hP rfl
    obtain ⟨c5, -⟩ := blk_cell (k := 5) hP rfl
    obtain ⟨c6, -⟩ := blk_cell (k := 6) hP rfl
    obtain ⟨c7, -⟩ := blk_cell (k := 7) hP rfl
    obtain ⟨c8, -⟩ := blk_cell (k := 8) hP rfl
    simp only [List.getElem_toArray, List.getElem_cons_zero, List.getElem_cons_succ] at c0 c1 c2 c3 c4 c5 c6 c7 c8
    go_wp2_with fail
    refine (HSP.out _).mono ?_
    rintro e w6 ⟨rfl, hb⟩
    replace hB := hB.trans (hb.mono hB.size)
    replace hP := blk_below hP hb (blk_lt hP)
    replace hM := blk_below hM hb (blk_lt hM)
    replace hQ := blk_below hQ hb (blk_lt hQ)
    clear hb HSP
    clear c0 c1 c2 c3 c4 c5 c6 c7 c8
    obtain ⟨y0, -⟩ := blk_cell (k := 0) hM rfl
    obtain ⟨y1, -⟩ := blk_cell (k := 1) hM rfl
    obtain ⟨y2, -⟩ := blk_cell (k := 2) hM rfl
    obtain ⟨y3, -⟩ := blk_cell (k := 3) hM rfl
    simp only [List.getElem_toArray, List.getElem_cons_zero, List.getElem_cons_succ] at y0 y1 y2 y3
    go_wp2_with fail
    refine (HE.out _).mono ?_
    rintro e w7 ⟨rfl, hb⟩
    replace hB := hB.trans (hb.mono hB.size)
    replace hP := blk_below hP hb (blk_lt hP)
    replace hM := blk_below hM hb (blk_lt hM)
    replace hQ := blk_below hQ hb (blk_lt hQ)
    clear hb HE
    clear y0 y1 y2 y3
    obtain ⟨c0, -⟩ := blk_cell (k := 0) hP rfl
    obtain ⟨c1, -⟩ := blk_cell (k := 1) hP rfl
    obtain ⟨c2, -⟩ := blk_cell (k := 2) hP rfl
    obtain ⟨c3, -⟩ := blk_cell (k := 3) hP rfl
    obtain ⟨c4, -⟩ := blk_cell (k := 4) hP rfl
    obtain ⟨c5, -⟩ := blk_cell (k := 5) hP rfl
    obtain ⟨c6, -⟩ := blk_cell (k := 6) hP rfl
    obtain ⟨c7, -⟩ := blk_cell (k := 7) hP rfl
    obtain ⟨c8, -⟩ := blk_cell (k := 8) hP rfl
    simp only [List.getElem_toArray, List.getElem_cons_zero, List.getElem_cons_succ] at c0 c1 c2 c3 c4 c5 c6 c7 c8
    go_wp2_with fail
    refine (HA.out _).mono ?_
    rintro e w8 ⟨rfl, hb⟩
    replace hB := (hB.trans (hb.mono hB.size)).alloc (hB.trans (hb.mono hB.size)).size (mo mz)
    replace hP := blk_alloc (blk_below hP hb (blk_lt hP)) (mo mz)
    replace hM := blk_alloc (blk_below hM hb (blk_lt hM)) (mo mz)
    replace hQ := blk_alloc (blk_below hQ hb (blk_lt hQ)) (mo mz)
    have hlt1 : w2.heap.size < w5.heap.size := hPQ
    have hlt2 : w4.heap.size < w5.heap.size := hMQ
    clear hb HA hPQ hMQ
    clear c0 c1 c2 c3 c4 c5 c6 c7 c8
    have hP9 := blk_set hP ⟨w5.heap.size, 8, none⟩ (fun e => by simp only at e; omega) (.string ps)
    have hM9 := blk_set hM ⟨w5.heap.size, 8, none⟩ (fun e => by simp only at e; omega) (.string ps)
    have hQ9 := blk_setc (k := 8) hQ (.string ps)
    have hB9 := hB.setCell (p := ⟨w5.heap.size, 8, none⟩) hwz5 (.string ps)
    simp only [List.setIfInBounds_toArray, List.set_cons_zero, List.set_cons_succ] at hQ9
    obtain ⟨c0, -⟩ := blk_cell (k := 0) hP rfl
    obtain ⟨c1, -⟩ := blk_cell (k := 1) hP rfl
    obtain ⟨c2, -⟩ := blk_cell (k := 2) hP rfl
    obtain ⟨c3, -⟩ := blk_cell (k := 3) hP rfl
    obtain ⟨c4, -⟩ := blk_cell (k := 4) hP rfl
    obtain ⟨c5, -⟩ := blk_cell (k := 5) hP rfl
    obtain ⟨c6, -⟩ := blk_cell (k := 6) hP rfl
    obtain ⟨c7, -⟩ := blk_cell (k := 7) hP rfl
    obtain ⟨c8, -⟩ := blk_cell (k := 8) hP rfl
    simp only [List.getElem_toArray, List.getElem_cons_zero, List.getElem_cons_succ] at c0 c1 c2 c3 c4 c5 c6 c7 c8
    obtain ⟨y0, -⟩ := blk_cell (k := 0) hM rfl
    obtain ⟨y1, -⟩ := blk_cell (k := 1) hM rfl
    obtain ⟨y2, -⟩ := blk_cell (k := 2) hM rfl
    obtain ⟨y3, -⟩ := blk_cell (k := 3) hM rfl
    simp only [List.getElem_toArray, List.getElem_cons_zero, List.getElem_cons_succ] at y0 y1 y2 y3
    obtain ⟨z0, -⟩ := blk_cell (k := 0) hQ rfl
    obtain ⟨z1, -⟩ := blk_cell (k := 1) hQ rfl
    obtain ⟨z2, -⟩ := blk_cell (k := 2) hQ rfl
    obtain ⟨z3, -⟩ := blk_cell (k := 3) hQ rfl
    obtain ⟨z4, -⟩ := blk_cell (k := 4) hQ rfl
    obtain ⟨z5, -⟩ := blk_cell (k := 5) hQ rfl
    obtain ⟨z6, -⟩ := blk_cell (k := 6) hQ rfl
    obtain ⟨z7, -⟩ := blk_cell (k := 7) hQ rfl
    obtain ⟨z8, -⟩ := blk_cell (k := 8) hQ rfl
    simp only [List.getElem_toArray, List.getElem_cons_zero, List.getElem_cons_succ] at z0 z1 z2 z3 z4 z5 z6 z7 z8
    have zf8 := (blk_cell (k := 8) hQ rfl).2
    obtain ⟨cc0, -⟩ := blk_cell (k := 0) hP9 rfl
    obtain ⟨cc1, -⟩ := blk_cell (k := 1) hP9 rfl
    obtain ⟨cc2, -⟩ := blk_cell (k := 2) hP9 rfl
    obtain ⟨cc3, -⟩ := blk_cell (k := 3) hP9 rfl
    obtain ⟨cc4, -⟩ := blk_cell (k := 4) hP9 rfl
    obtain ⟨cc5, -⟩ := blk_cell (k := 5) hP9 rfl
    obtain ⟨cc6, -⟩ := blk_cell (k := 6) hP9 rfl
    obtain ⟨cc7, -⟩ := blk_cell (k := 7) hP9 rfl
    obtain ⟨cc8, -⟩ := blk_cell (k := 8) hP9 rfl
    simp only [List.getElem_toArray, List.getElem_cons_zero, List.getElem_cons_succ] at cc0 cc1 cc2 cc3 cc4 cc5 cc6 cc7 cc8
    obtain ⟨yy0, -⟩ := blk_cell (k := 0) hM9 rfl
    obtain ⟨yy1, -⟩ := blk_cell (k := 1) hM9 rfl
    obtain ⟨yy2, -⟩ := blk_cell (k := 2) hM9 rfl
    obtain ⟨yy3, -⟩ := blk_cell (k := 3) hM9 rfl
    simp only [List.getElem_toArray, List.getElem_cons_zero, List.getElem_cons_succ] at yy0 yy1 yy2 yy3
    obtain ⟨zz0, -⟩ := blk_cell (k := 0) hQ9 rfl
    obtain ⟨zz1, -⟩ := blk_cell (k := 1) hQ9 rfl
    obtain ⟨zz2, -⟩ := blk_cell (k := 2) hQ9 rfl
    obtain ⟨zz3, -⟩ := blk_cell (k := 3) hQ9 rfl
    obtain ⟨zz4, -⟩ := blk_cell (k := 4) hQ9 rfl
    obtain ⟨zz5, -⟩ := blk_cell (k := 5) hQ9 rfl
    obtain ⟨zz6, -⟩ := blk_cell (k := 6) hQ9 rfl
    obtain ⟨zz7, -⟩ := blk_cell (k := 7) hQ9 rfl
    obtain ⟨zz8, -⟩ := blk_cell (k := 8) hQ9 rfl
    simp only [List.getElem_toArray, List.getElem_cons_zero, List.getElem_cons_succ] at zz0 zz1 zz2 zz3 zz4 zz5 zz6 zz7 zz8
    have HX := Lib.hid hX
    clear hX
    have HB9 := Lib.hid hB9
    have hne1 : (w2.heap.size = w5.heap.size) = False := eq_false (by omega)
    have hne2 : (w4.heap.size = w5.heap.size) = False := eq_false (by omega)
    clear hB9 hP hM hQ hP9 hM9 hQ9 hlt1 hlt2
    by_cases hl : SP.size ≤ 28
    · have k0 : (0 : Int) ≤ (SP.size : Int) := by omega
      have k1 : (SP.size : Int) ≤ 28 := by omega
      have k2 : ((28 : Int) < (SP.size : Int)) = False := eq_false (by omega)
      have hX' : SP.extract 0 SP.size = X := by rw [← HX.out]; congr 1; omega
      clear hl hzp
      go_wp2
      refine wp_region_noPanic ?_
      refine wp_region_held_drew (S := fun w' => w'.cell? ⟨w2.heap.size, 0, none⟩ = some (.int .i64 fr) ∧ w'.cell? ⟨w2.heap.size, 1, none⟩ = some (.int .i64 dst) ∧ w'.cell? ⟨w2.heap.size, 2, none⟩ = some (.int .i64 pr) ∧ w'.cell? ⟨w2.heap.size, 3, none⟩ = some (.int .i64 tt) ∧ w'.cell? ⟨w2.heap.size, 4, none⟩ = some (.int .i64 id) ∧ w'.cell? ⟨w2.heap.size, 5, none⟩ = some (.bool df) ∧ w'.cell? ⟨w2.heap.size, 6, none⟩ = some (.bool mf) ∧ w'.cell? ⟨w2.heap.size, 7, none⟩ = some (.int .i64 off) ∧ w'.cell? ⟨w2.heap.size, 8, none⟩ = some (.string ps) ∧ w'.cell? ⟨w4.heap.size, 3, none⟩ = some (.string X) ∧ w'.cell? ⟨w5.heap.size, 0, none⟩ = some (.int .i64 fr) ∧ w'.cell? ⟨w5.heap.size, 1, none⟩ = some (.int .i64 dst) ∧ w'.cell? ⟨w5.heap.size, 2, none⟩ = some (.int .i64 pr) ∧ w'.cell? ⟨w5.heap.size, 3, none⟩ = some (.int .i64 tt) ∧ w'.cell? ⟨w5.heap.size, 4, none⟩ = some (.int .i64 id) ∧ w'.cell? ⟨w5.heap.size, 5, none⟩ = some (.bool df) ∧ w'.cell? ⟨w5.heap.size, 6, none⟩ = some (.bool mf) ∧ w'.cell? ⟨w5.heap.size, 7, none⟩ = some (.int .i64 off) ∧ w'.cell? ⟨w5.heap.size, 8, none⟩ = some (.string ps)) (by kernel_rfl) (⟨cc0, cc1, cc2, cc3, cc4, cc5, cc6, cc7, cc8, yy3, zz0, zz1, zz2, zz3, zz4, zz5, zz6, zz7, zz8⟩) (fun hHeld => ?_)
      first
        | (refine wpAnyH_take (i := 0) (oi := ⟨some 101, _, _, _, _, _⟩) (v := ?va0) rfl (by kernel_rfl) (by kernel_rfl) (by kernel_rfl) (fun _ _ _ h => h) (Or.inl ⟨by rfl, ?hya0⟩) hHeld ?rra0
           case hya0 => (intro w hSw; (try dsimp only at hSw); go_simp; try with_reducible rfl))
        | (refine wpAnyH_take (i := 0) (oi := ⟨some 101, _, _, _, _, _⟩) (v := undef) rfl (by kernel_rfl) (by kernel_rfl) (by kernel_rfl) (fun _ _ _ h => h) (Or.inr ⟨by rfl, rfl⟩) hHeld ?rra0)
      try simp only [Act.put, List.setIfInBounds_toArray, List.set_cons_zero, List.set_cons_succ]
      first
        | (refine wpAnyH_take (i := 1) (oi := ⟨some 102, _, _, _, _, _⟩) (v := ?va1) rfl (by kernel_rfl) (by kernel_rfl) (by kernel_rfl) (fun _ _ _ h => h) (Or.inl ⟨by rfl, ?hya1⟩) hHeld ?rra1
           case hya1 => (intro w hSw; (try dsimp only at hSw); go_simp; try with_reducible rfl))
        | (refine wpAnyH_take (i := 1) (oi := ⟨some 102, _, _, _, _, _⟩) (v := undef) rfl (by kernel_rfl) (by kernel_rfl) (by kernel_rfl) (fun _ _ _ h => h) (Or.inr ⟨by rfl, rfl⟩) hHeld ?rra1)
      try simp only [Act.put, List.setIfInBounds_toArray, List.set_cons_zero, List.set_cons_succ]
      first
        | (refine wpAnyH_take (i := 2) (oi := ⟨some 103, _, _, _, _, _⟩) (v := ?va2) rfl (by kernel_rfl) (by kernel_rfl) (by kernel_rfl) (fun _ _ _ h => h) (Or.inl ⟨by rfl, ?hya2⟩) hHeld ?rra2
           case hya2 => (intro w hSw; (try dsimp only at hSw); go_simp; try with_reducible rfl))
        | (refine wpAnyH_take (i := 2) (oi := ⟨some 103, _, _, _, _, _⟩) (v := undef) rfl (by kernel_rfl) (by kernel_rfl) (by kernel_rfl) (fun _ _ _ h => h) (Or.inr ⟨by rfl, rfl⟩) hHeld ?rra2)
      try simp only [Act.put, List.setIfInBounds_toArray, List.set_cons_zero, List.set_cons_succ]
      first
        | (refine wpAnyH_take (i := 3) (oi := ⟨some 104, _, _, _, _, _⟩) (v := ?va3) rfl (by kernel_rfl) (by kernel_rfl) (by kernel_rfl) (fun _ _ _ h => h) (Or.inl ⟨by rfl, ?hya3⟩) hHeld ?rra3
           case hya3 => (intro w hSw; (try dsimp only at hSw); go_simp; try with_reducible rfl))
        | (refine wpAnyH_take (i := 3) (oi := ⟨some 104, _, _, _, _, _⟩) (v := undef) rfl (by kernel_rfl) (by kernel_rfl) (by kernel_rfl) (fun _ _ _ h => h) (Or.inr ⟨by rfl, rfl⟩) hHeld ?rra3)
      try simp only [Act.put, List.setIfInBounds_toArray, List.set_cons_zero, List.set_cons_succ]
      first
        | (refine wpAnyH_take (i := 4) (oi := ⟨some 105, _, _, _, _, _⟩) (v := ?va4) rfl (by kernel_rfl) (by kernel_rfl) (by kernel_rfl) (fun _ _ _ h => h) (Or.inl ⟨by rfl, ?hya4⟩) hHeld ?rra4
           case hya4 => (intro w hSw; (try dsimp only at hSw); go_simp; try with_reducible rfl))
        | (refine wpAnyH_take (i := 4) (oi := ⟨some 105, _, _, _, _, _⟩) (v := undef) rfl (by kernel_rfl) (by kernel_rfl) (by kernel_rfl) (fun _ _ _ h => h) (Or.inr ⟨by rfl, rfl⟩) hHeld ?rra4)
      try simp only [Act.put, List.setIfInBounds_toArray, List.set_cons_zero, List.set_cons_succ]
      first
        | (refine wpAnyH_take (i := 5) (oi := ⟨some 106, _, _, _, _, _⟩) (v := ?va5) rfl (by kernel_rfl) (by kernel_rfl) (by kernel_rfl) (fun _ _ _ h => h) (Or.inl ⟨by rfl, ?hya5⟩) hHeld ?rra5
           case hya5 => (intro w hSw; (try dsimp only at hSw); go_simp; try with_reducible rfl))
        | (refine wpAnyH_take (i := 5) (oi := ⟨some 106, _, _, _, _, _⟩) (v := undef) rfl (by kernel_rfl) (by kernel_rfl) (by kernel_rfl) (fun _ _ _ h => h) (Or.inr ⟨by rfl, rfl⟩) hHeld ?rra5)
      try simp only [Act.put, List.setIfInBounds_toArray, List.set_cons_zero, List.set_cons_succ]
      first
        | (refine wpAnyH_take (i := 6) (oi := ⟨some 107, _, _, _, _, _⟩) (v := ?va6) rfl (by kernel_rfl) (by kernel_rfl) (by kernel_rfl) (fun _ _ _ h => h) (Or.inl ⟨by rfl, ?hya6⟩) hHeld ?rra6
           case hya6 => (intro w hSw; (try dsimp only at hSw); go_simp; try with_reducible rfl))
        | (refine wpAnyH_take (i := 6) (oi := ⟨some 107, _, _, _, _, _⟩) (v := undef) rfl (by kernel_rfl) (by kernel_rfl) (by kernel_rfl) (fun _ _ _ h => h) (Or.inr ⟨by rfl, rfl⟩) hHeld ?rra6)
      try simp only [Act.put, List.setIfInBounds_toArray, List.set_cons_zero, List.set_cons_succ]
      first
        | (refine wpAnyH_take (i := 7) (oi := ⟨some 108, _, _, _, _, _⟩) (v := ?va7) rfl (by kernel_rfl) (by kernel_rfl) (by kernel_rfl) (fun _ _ _ h => h) (Or.inl ⟨by rfl, ?hya7⟩) hHeld ?rra7
           case hya7 => (intro w hSw; (try dsimp only at hSw); go_simp; try with_reducible rfl))
        | (refine wpAnyH_take (i := 7) (oi := ⟨some 108, _, _, _, _, _⟩) (v := undef) rfl (by kernel_rfl) (by kernel_rfl) (by kernel_rfl) (fun _ _ _ h => h) (Or.inr ⟨by rfl, rfl⟩) hHeld ?rra7)
      try simp only [Act.put, List.setIfInBounds_toArray, List.set_cons_zero, List.set_cons_succ]
      first
        | (refine wpAnyH_take (i := 8) (oi := ⟨some 109, _, _, _, _, _⟩) (v := ?va8) rfl (by kernel_rfl) (by kernel_rfl) (by kernel_rfl) (fun _ _ _ h => h) (Or.inl ⟨by rfl, ?hya8⟩) hHeld ?rra8
           case hya8 => (intro w hSw; (try dsimp only at hSw); go_simp; try with_reducible rfl))
        | (refine wpAnyH_take (i := 8) (oi := ⟨some 109, _, _, _, _, _⟩) (v := undef) rfl (by kernel_rfl) (by kernel_rfl) (by kernel_rfl) (fun _ _ _ h => h) (Or.inr ⟨by rfl, rfl⟩) hHeld ?rra8)
      try simp only [Act.put, List.setIfInBounds_toArray, List.set_cons_zero, List.set_cons_succ]
      first
        | (refine wpAnyH_take (i := 9) (oi := ⟨some 110, _, _, _, _, _⟩) (v := ?va9) rfl (by kernel_rfl) (by kernel_rfl) (by kernel_rfl) (fun _ _ _ h => h) (Or.inl ⟨by rfl, ?hya9⟩) hHeld ?rra9
           case hya9 => (intro w hSw; (try dsimp only at hSw); go_simp; try with_reducible rfl))
        | (refine wpAnyH_take (i := 9) (oi := ⟨some 110, _, _, _, _, _⟩) (v := undef) rfl (by kernel_rfl) (by kernel_rfl) (by kernel_rfl) (fun _ _ _ h => h) (Or.inr ⟨by rfl, rfl⟩) hHeld ?rra9)
      try simp only [Act.put, List.setIfInBounds_toArray, List.set_cons_zero, List.set_cons_succ]
      first
        | (refine wpAnyH_take (i := 10) (oi := ⟨some 111, _, _, _, _, _⟩) (v := ?va10) rfl (by kernel_rfl) (by kernel_rfl) (by kernel_rfl) (fun _ _ _ h => h) (Or.inl ⟨by rfl, ?hya10⟩) hHeld ?rra10
           case hya10 => (intro w hSw; (try dsimp only at hSw); go_simp; try with_reducible rfl))
        | (refine wpAnyH_take (i := 10) (oi := ⟨some 111, _, _, _, _, _⟩) (v := undef) rfl (by kernel_rfl) (by kernel_rfl) (by kernel_rfl) (fun _ _ _ h => h) (Or.inr ⟨by rfl, rfl⟩) hHeld ?rra10)
      try simp only [Act.put, List.setIfInBounds_toArray, List.set_cons_zero, List.set_cons_succ]
      first
        | (refine wpAnyH_take (i := 11) (oi := ⟨some 112, _, _, _, _, _⟩) (v := ?va11) rfl (by kernel_rfl) (by kernel_rfl) (by kernel_rfl) (fun _ _ _ h => h) (Or.inl ⟨by rfl, ?hya11⟩) hHeld ?rra11
           case hya11 => (intro w hSw; (try dsimp only at hSw); go_simp; try with_reducible rfl))
        | (refine wpAnyH_take (i := 11) (oi := ⟨some 112, _, _, _, _, _⟩) (v := undef) rfl (by kernel_rfl) (by kernel_rfl) (by kernel_rfl) (fun _ _ _ h => h) (Or.inr ⟨by rfl, rfl⟩) hHeld ?rra11)
      try simp only [Act.put, List.setIfInBounds_toArray, List.set_cons_zero, List.set_cons_succ]
      first
        | (refine wpAnyH_take (i := 12) (oi := ⟨some 113, _, _, _, _, _⟩) (v := ?va12) rfl (by kernel_rfl) (by kernel_rfl) (by kernel_rfl) (fun _ _ _ h => h) (Or.inl ⟨by rfl, ?hya12⟩) hHeld ?rra12
           case hya12 => (intro w hSw; (try dsimp only at hSw); go_simp; try with_reducible rfl))
        | (refine wpAnyH_take (i := 12) (oi := ⟨some 113, _, _, _, _, _⟩) (v := undef) rfl (by kernel_rfl) (by kernel_rfl) (by kernel_rfl) (fun _ _ _ h => h) (Or.inr ⟨by rfl, rfl⟩) hHeld ?rra12)
      try simp only [Act.put, List.setIfInBounds_toArray, List.set_cons_zero, List.set_cons_succ]
      first
        | (refine wpAnyH_take (i := 13) (oi := ⟨some 114, _, _, _, _, _⟩) (v := ?va13) rfl (by kernel_rfl) (by kernel_rfl) (by kernel_rfl) (fun _ _ _ h => h) (Or.inl ⟨by rfl, ?hya13⟩) hHeld ?rra13
           case hya13 => (intro w hSw; (try dsimp only at hSw); go_simp; try with_reducible rfl))
        | (refine wpAnyH_take (i := 13) (oi := ⟨some 114, _, _, _, _, _⟩) (v := undef) rfl (by kernel_rfl) (by kernel_rfl) (by kernel_rfl) (fun _ _ _ h => h) (Or.inr ⟨by rfl, rfl⟩) hHeld ?rra13)
      try simp only [Act.put, List.setIfInBounds_toArray, List.set_cons_zero, List.set_cons_succ]
      first
        | (refine wpAnyH_take (i := 14) (oi := ⟨some 115, _, _, _, _, _⟩) (v := ?va14) rfl (by kernel_rfl) (by kernel_rfl) (by kernel_rfl) (fun _ _ _ h => h) (Or.inl ⟨by rfl, ?hya14⟩) hHeld ?rra14
           case hya14 => (intro w hSw; (try dsimp only at hSw); go_simp; try with_reducible rfl))
        | (refine wpAnyH_take (i := 14) (oi := ⟨some 115, _, _, _, _, _⟩) (v := undef) rfl (by kernel_rfl) (by kernel_rfl) (by kernel_rfl) (fun _ _ _ h => h) (Or.inr ⟨by rfl, rfl⟩) hHeld ?rra14)
      try simp only [Act.put, List.setIfInBounds_toArray, List.set_cons_zero, List.set_cons_succ]
      first
        | (refine wpAnyH_take (i := 15) (oi := ⟨some 116, _, _, _, _, _⟩) (v := ?va15) rfl (by kernel_rfl) (by kernel_rfl) (by kernel_rfl) (fun _ _ _ h => h) (Or.inl ⟨by rfl, ?hya15⟩) hHeld ?rra15
           case hya15 => (intro w hSw; (try dsimp only at hSw); go_simp; try with_reducible rfl))
        | (refine wpAnyH_take (i := 15) (oi := ⟨some 116, _, _, _, _, _⟩) (v := undef) rfl (by kernel_rfl) (by kernel_rfl) (by kernel_rfl) (fun _ _ _ h => h) (Or.inr ⟨by rfl, rfl⟩) hHeld ?rra15)
      try simp only [Act.put, List.setIfInBounds_toArray, List.set_cons_zero, List.set_cons_succ]
      first
        | (refine wpAnyH_take (i := 16) (oi := ⟨some 117, _, _, _, _, _⟩) (v := ?va16) rfl (by kernel_rfl) (by kernel_rfl) (by kernel_rfl) (fun _ _ _ h => h) (Or.inl ⟨by rfl, ?hya16⟩) hHeld ?rra16
           case hya16 => (intro w hSw; (try dsimp only at hSw); go_simp; try with_reducible rfl))
        | (refine wpAnyH_take (i := 16) (oi := ⟨some 117, _, _, _, _, _⟩) (v := undef) rfl (by kernel_rfl) (by kernel_rfl) (by kernel_rfl) (fun _ _ _ h => h) (Or.inr ⟨by rfl, rfl⟩) hHeld ?rra16)
      try simp only [Act.put, List.setIfInBounds_toArray, List.set_cons_zero, List.set_cons_succ]
      first
        | (refine wpAnyH_take (i := 17) (oi := ⟨some 118, _, _, _, _, _⟩) (v := ?va17) rfl (by kernel_rfl) (by kernel_rfl) (by kernel_rfl) (fun _ _ _ h => h) (Or.inl ⟨by rfl, ?hya17⟩) hHeld ?rra17
           case hya17 => (intro w hSw; (try dsimp only at hSw); go_simp; try with_reducible rfl))
        | (refine wpAnyH_take (i := 17) (oi := ⟨some 118, _, _, _, _, _⟩) (v := undef) rfl (by kernel_rfl) (by kernel_rfl) (by kernel_rfl) (fun _ _ _ h => h) (Or.inr ⟨by rfl, rfl⟩) hHeld ?rra17)
      try simp only [Act.put, List.setIfInBounds_toArray, List.set_cons_zero, List.set_cons_succ]
      first
        | (refine wpAnyH_take (i := 18) (oi := ⟨some 119, _, _, _, _, _⟩) (v := ?va18) rfl (by kernel_rfl) (by kernel_rfl) (by kernel_rfl) (fun _ _ _ h => h) (Or.inl ⟨by rfl, ?hya18⟩) hHeld ?rra18
           case hya18 => (intro w hSw; (try dsimp only at hSw); go_simp; try with_reducible rfl))
        | (refine wpAnyH_take (i := 18) (oi := ⟨some 119, _, _, _, _, _⟩) (v := undef) rfl (by kernel_rfl) (by kernel_rfl) (by kernel_rfl) (fun _ _ _ h => h) (Or.inr ⟨by rfl, rfl⟩) hHeld ?rra18)
      try simp only [Act.put, List.setIfInBounds_toArray, List.set_cons_zero, List.set_cons_succ]
      first
        | (refine wpAnyH_take (i := 19) (oi := ⟨some 120, _, _, _, _, _⟩) (v := ?va19) rfl (by kernel_rfl) (by kernel_rfl) (by kernel_rfl) (fun _ _ _ h => h) (Or.inl ⟨by rfl, ?hya19⟩) hHeld ?rra19
           case hya19 => (intro w hSw; (try dsimp only at hSw); go_simp; try with_reducible rfl))
        | (refine wpAnyH_take (i := 19) (oi := ⟨some 120, _, _, _, _, _⟩) (v := undef) rfl (by kernel_rfl) (by kernel_rfl) (by kernel_rfl) (fun _ _ _ h => h) (Or.inr ⟨by rfl, rfl⟩) hHeld ?rra19)
      try simp only [Act.put, List.setIfInBounds_toArray, List.set_cons_zero, List.set_cons_succ]
      first
        | (refine wpAnyH_take (i := 20) (oi := ⟨some 121, _, _, _, _, _⟩) (v := ?va20) rfl (by kernel_rfl) (by kernel_rfl) (by kernel_rfl) (fun _ _ _ h => h) (Or.inl ⟨by rfl, ?hya20⟩) hHeld ?rra20
           case hya20 => (intro w hSw; (try dsimp only at hSw); go_simp; try with_reducible rfl))
        | (refine wpAnyH_take (i := 20) (oi := ⟨some 121, _, _, _, _, _⟩) (v := undef) rfl (by kernel_rfl) (by kernel_rfl) (by kernel_rfl) (fun _ _ _ h => h) (Or.inr ⟨by rfl, rfl⟩) hHeld ?rra20)
      try simp only [Act.put, List.setIfInBounds_toArray, List.set_cons_zero, List.set_cons_succ]
      first
        | (refine wpAnyH_take (i := 21) (oi := ⟨some 122, _, _, _, _, _⟩) (v := ?va21) rfl (by kernel_rfl) (by kernel_rfl) (by kernel_rfl) (fun _ _ _ h => h) (Or.inl ⟨by rfl, ?hya21⟩) hHeld ?rra21
           case hya21 => (intro w hSw; (try dsimp only at hSw); go_simp; try with_reducible rfl))
        | (refine wpAnyH_take (i := 21) (oi := ⟨some 122, _, _, _, _, _⟩) (v := undef) rfl (by kernel_rfl) (by kernel_rfl) (by kernel_rfl) (fun _ _ _ h => h) (Or.inr ⟨by rfl, rfl⟩) hHeld ?rra21)
      try simp only [Act.put, List.setIfInBounds_toArray, List.set_cons_zero, List.set_cons_succ]
      first
        | (refine wpAnyH_take (i := 22) (oi := ⟨some 123, _, _, _, _, _⟩) (v := ?va22) rfl (by kernel_rfl) (by kernel_rfl) (by kernel_rfl) (fun _ _ _ h => h) (Or.inl ⟨by rfl, ?hya22⟩) hHeld ?rra22
           case hya22 => (intro w hSw; (try dsimp only at hSw); go_simp; try with_reducible rfl))
        | (refine wpAnyH_take (i := 22) (oi := ⟨some 123, _, _, _, _, _⟩) (v := undef) rfl (by kernel_rfl) (by kernel_rfl) (by kernel_rfl) (fun _ _ _ h => h) (Or.inr ⟨by rfl, rfl⟩) hHeld ?rra22)
      try simp only [Act.put, List.setIfInBounds_toArray, List.set_cons_zero, List.set_cons_succ]
      first
        | (refine wpAnyH_take (i := 23) (oi := ⟨some 124, _, _, _, _, _⟩) (v := ?va23) rfl (by kernel_rfl) (by kernel_rfl) (by kernel_rfl) (fun _ _ _ h => h) (Or.inl ⟨by rfl, ?hya23⟩) hHeld ?rra23
           case hya23 => (intro w hSw; (try dsimp only at hSw); go_simp; try with_reducible rfl))
        | (refine wpAnyH_take (i := 23) (oi := ⟨some 124, _, _, _, _, _⟩) (v := undef) rfl (by kernel_rfl) (by kernel_rfl) (by kernel_rfl) (fun _ _ _ h => h) (Or.inr ⟨by rfl, rfl⟩) hHeld ?rra23)
      try simp only [Act.put, List.setIfInBounds_toArray, List.set_cons_zero, List.set_cons_succ]
      first
        | (refine wpAnyH_take (i := 24) (oi := ⟨some 125, _, _, _, _, _⟩) (v := ?va24) rfl (by kernel_rfl) (by kernel_rfl) (by kernel_rfl) (fun _ _ _ h => h) (Or.inl ⟨by rfl, ?hya24⟩) hHeld ?rra24
           case hya24 => (intro w hSw; (try dsimp only at hSw); go_simp; try with_reducible rfl))
        | (refine wpAnyH_take (i := 24) (oi := ⟨some 125, _, _, _, _, _⟩) (v := undef) rfl (by kernel_rfl) (by kernel_rfl) (by kernel_rfl) (fun _ _ _ h => h) (Or.inr ⟨by rfl, rfl⟩) hHeld ?rra24)
      try simp only [Act.put, List.setIfInBounds_toArray, List.set_cons_zero, List.set_cons_succ]
      first
        | (refine wpAnyH_take (i := 25) (oi := ⟨some 126, _, _, _, _, _⟩) (v := ?va25) rfl (by kernel_rfl) (by kernel_rfl) (by kernel_rfl) (fun _ _ _ h => h) (Or.inl ⟨by rfl, ?hya25⟩) hHeld ?rra25
           case hya25 => (intro w hSw; (try dsimp only at hSw); go_simp; try with_reducible rfl))
        | (refine wpAnyH_take (i := 25) (oi := ⟨some 126, _, _, _, _, _⟩) (v := undef) rfl (by kernel_rfl) (by kernel_rfl) (by kernel_rfl) (fun _ _ _ h => h) (Or.inr ⟨by rfl, rfl⟩) hHeld ?rra25)
      try simp only [Act.put, List.setIfInBounds_toArray, List.set_cons_zero, List.set_cons_succ]
      first
        | (refine wpAnyH_take (i := 26) (oi := ⟨some 127, _, _, _, _, _⟩) (v := ?va26) rfl (by kernel_rfl) (by kernel_rfl) (by kernel_rfl) (fun _ _ _ h => h) (Or.inl ⟨by rfl, ?hya26⟩) hHeld ?rra26
           case hya26 => (intro w hSw; (try dsimp only at hSw); go_simp; try with_reducible rfl))
        | (refine wpAnyH_take (i := 26) (oi := ⟨some 127, _, _, _, _, _⟩) (v := undef) rfl (by kernel_rfl) (by kernel_rfl) (by kernel_rfl) (fun _ _ _ h => h) (Or.inr ⟨by rfl, rfl⟩) hHeld ?rra26)
      try simp only [Act.put, List.setIfInBounds_toArray, List.set_cons_zero, List.set_cons_succ]
      first
        | (refine wpAnyH_take (i := 27) (oi := ⟨some 128, _, _, _, _, _⟩) (v := ?va27) rfl (by kernel_rfl) (by kernel_rfl) (by kernel_rfl) (fun _ _ _ h => h) (Or.inl ⟨by rfl, ?hya27⟩) hHeld ?rra27
           case hya27 => (intro w hSw; (try dsimp only at hSw); go_simp; try with_reducible rfl))
        | (refine wpAnyH_take (i := 27) (oi := ⟨some 128, _, _, _, _, _⟩) (v := undef) rfl (by kernel_rfl) (by kernel_rfl) (by kernel_rfl) (fun _ _ _ h => h) (Or.inr ⟨by rfl, rfl⟩) hHeld ?rra27)
      try simp only [Act.put, List.setIfInBounds_toArray, List.set_cons_zero, List.set_cons_succ]
      first
        | (refine wpAnyH_take (i := 28) (oi := ⟨some 129, _, _, _, _, _⟩) (v := ?va28) rfl (by kernel_rfl) (by kernel_rfl) (by kernel_rfl) (fun _ _ _ h => h) (Or.inl ⟨by rfl, ?hya28⟩) hHeld ?rra28
           case hya28 => (intro w hSw; (try dsimp only at hSw); go_simp; try with_reducible rfl))
        | (refine wpAnyH_take (i := 28) (oi := ⟨some 129, _, _, _, _, _⟩) (v := undef) rfl (by kernel_rfl) (by kernel_rfl) (by kernel_rfl) (fun _ _ _ h => h) (Or.inr ⟨by rfl, rfl⟩) hHeld ?rra28)
      try simp only [Act.put, List.setIfInBounds_toArray, List.set_cons_zero, List.set_cons_succ]
      first
        | (refine wpAnyH_take (i := 29) (oi := ⟨some 130, _, _, _, _, _⟩) (v := ?va29) rfl (by kernel_rfl) (by kernel_rfl) (by kernel_rfl) (fun _ _ _ h => h) (Or.inl ⟨by rfl, ?hya29⟩) hHeld ?rra29
           case hya29 => (intro w hSw; (try dsimp only at hSw); go_simp; try with_reducible rfl))
        | (refine wpAnyH_take (i := 29) (oi := ⟨some 130, _, _, _, _, _⟩) (v := undef) rfl (by kernel_rfl) (by kernel_rfl) (by kernel_rfl) (fun _ _ _ h => h) (Or.inr ⟨by rfl, rfl⟩) hHeld ?rra29)
      try simp only [Act.put, List.setIfInBounds_toArray, List.set_cons_zero, List.set_cons_succ]
      first
        | (refine wpAnyH_take (i := 30) (oi := ⟨some 131, _, _, _, _, _⟩) (v := ?va30) rfl (by kernel_rfl) (by kernel_rfl) (by kernel_rfl) (fun _ _ _ h => h) (Or.inl ⟨by rfl, ?hya30⟩) hHeld ?rra30
           case hya30 => (intro w hSw; (try dsimp only at hSw); go_simp; try with_reducible rfl))
        | (refine wpAnyH_take (i := 30) (oi := ⟨some 131, _, _, _, _, _⟩) (v := undef) rfl (by kernel_rfl) (by kernel_rfl) (by kernel_rfl) (fun _ _ _ h => h) (Or.inr ⟨by rfl, rfl⟩) hHeld ?rra30)
      try simp only [Act.put, List.setIfInBounds_toArray, List.set_cons_zero, List.set_cons_succ]
      first
        | (refine wpAnyH_take (i := 31) (oi := ⟨some 4, _, _, _, _, _⟩) (v := ?va31) rfl (by kernel_rfl) (by kernel_rfl) (by kernel_rfl) (fun _ _ _ h => h) (Or.inl ⟨by rfl, ?hya31⟩) hHeld ?rra31
           case hya31 => (intro w hSw; (try dsimp only at hSw); go_simp; try with_reducible rfl))
        | (refine wpAnyH_take (i := 31) (oi := ⟨some 4, _, _, _, _, _⟩) (v := undef) rfl (by kernel_rfl) (by kernel_rfl) (by kernel_rfl) (fun _ _ _ h => h) (Or.inr ⟨by rfl, rfl⟩) hHeld ?rra31)
      try simp only [Act.put, List.setIfInBounds_toArray, List.set_cons_zero, List.set_cons_succ]
      refine wpAnyH_done (by kernel_rfl) ?_ _
      refine NoPanic.normal ?_
      go_wp2
      go_ret
      exact ⟨rfl, HB9.out.drew⟩
    · have k0 : (0 : Int) ≤ (SP.size : Int) := by omega
      have k1 : (28 : Int) ≤ (SP.size : Int) := by omega
      have k2 : (28 : Int) < (SP.size : Int) := by omega
      have hX' : SP.extract 0 28 = X := by rw [← HX.out]; congr 1; omega
      clear hl hzp
      go_wp2
      refine wp_region_noPanic ?_
      refine wp_region_held_drew (S := fun w' => w'.cell? ⟨w2.heap.size, 0, none⟩ = some (.int .i64 fr) ∧ w'.cell? ⟨w2.heap.size, 1, none⟩ = some (.int .i64 dst) ∧ w'.cell? ⟨w2.heap.size, 2, none⟩ = some (.int .i64 pr) ∧ w'.cell? ⟨w2.heap.size, 3, none⟩ = some (.int .i64 tt) ∧ w'.cell? ⟨w2.heap.size, 4, none⟩ = some (.int .i64 id) ∧ w'.cell? ⟨w2.heap.size, 5, none⟩ = some (.bool df) ∧ w'.cell? ⟨w2.heap.size, 6, none⟩ = some (.bool mf) ∧ w'.cell? ⟨w2.heap.size, 7, none⟩ = some (.int .i64 off) ∧ w'.cell? ⟨w2.heap.size, 8, none⟩ = some (.string ps) ∧ w'.cell? ⟨w4.heap.size, 3, none⟩ = some (.string X) ∧ w'.cell? ⟨w5.heap.size, 0, none⟩ = some (.int .i64 fr) ∧ w'.cell? ⟨w5.heap.size, 1, none⟩ = some (.int .i64 dst) ∧ w'.cell? ⟨w5.heap.size, 2, none⟩ = some (.int .i64 pr) ∧ w'.cell? ⟨w5.heap.size, 3, none⟩ = some (.int .i64 tt) ∧ w'.cell? ⟨w5.heap.size, 4, none⟩ = some (.int .i64 id) ∧ w'.cell? ⟨w5.heap.size, 5, none⟩ = some (.bool df) ∧ w'.cell? ⟨w5.heap.size, 6, none⟩ = some (.bool mf) ∧ w'.cell? ⟨w5.heap.size, 7, none⟩ = some (.int .i64 off) ∧ w'.cell? ⟨w5.heap.size, 8, none⟩ = some (.string ps)) (by kernel_rfl) (⟨cc0, cc1, cc2, cc3, cc4, cc5, cc6, cc7, cc8, yy3, zz0, zz1, zz2, zz3, zz4, zz5, zz6, zz7, zz8⟩) (fun hHeld => ?_)
      first
        | (refine wpAnyH_take (i := 0) (oi := ⟨some 101, _, _, _, _, _⟩) (v := ?vb0) rfl (by kernel_rfl) (by kernel_rfl) (by kernel_rfl) (fun _ _ _ h => h) (Or.inl ⟨by rfl, ?hyb0⟩) hHeld ?rrb0
           case hyb0 => (intro w hSw; (try dsimp only at hSw); go_simp; try with_reducible rfl))
        | (refine wpAnyH_take (i := 0) (oi := ⟨some 101, _, _, _, _, _⟩) (v := undef) rfl (by kernel_rfl) (by kernel_rfl) (by kernel_rfl) (fun _ _ _ h => h) (Or.inr ⟨by rfl, rfl⟩) hHeld ?rrb0)
      try simp only [Act.put, List.setIfInBounds_toArray, List.set_cons_zero, List.set_cons_succ]
      first
        | (refine wpAnyH_take (i := 1) (oi := ⟨some 102, _, _, _, _, _⟩) (v := ?vb1) rfl (by kernel_rfl) (by kernel_rfl) (by kernel_rfl) (fun _ _ _ h => h) (Or.inl ⟨by rfl, ?hyb1⟩) hHeld ?rrb1
           case hyb1 => (intro w hSw; (try dsimp only at hSw); go_simp; try with_reducible rfl))
        | (refine wpAnyH_take (i := 1) (oi := ⟨some 102, _, _, _, _, _⟩) (v := undef) rfl (by kernel_rfl) (by kernel_rfl) (by kernel_rfl) (fun _ _ _ h => h) (Or.inr ⟨by rfl, rfl⟩) hHeld ?rrb1)
      try simp only [Act.put, List.setIfInBounds_toArray, List.set_cons_zero, List.set_cons_succ]
      first
        | (refine wpAnyH_take (i := 2) (oi := ⟨some 103, _, _, _, _, _⟩) (v := ?vb2) rfl (by kernel_rfl) (by kernel_rfl) (by kernel_rfl) (fun _ _ _ h => h) (Or.inl ⟨by rfl, ?hyb2⟩) hHeld ?rrb2
           case hyb2 => (intro w hSw; (try dsimp only at hSw); go_simp; try with_reducible rfl))
        | (refine wpAnyH_take (i := 2) (oi := ⟨some 103, _, _, _, _, _⟩) (v := undef) rfl (by kernel_rfl) (by kernel_rfl) (by kernel_rfl) (fun _ _ _ h => h) (Or.inr ⟨by rfl, rfl⟩) hHeld ?rrb2)
      try simp only [Act.put, List.setIfInBounds_toArray, List.set_cons_zero, List.set_cons_succ]
      first
        | (refine wpAnyH_take (i := 3) (oi := ⟨some 104, _, _, _, _, _⟩) (v := ?vb3) rfl (by kernel_rfl) (by kernel_rfl) (by kernel_rfl) (fun _ _ _ h => h) (Or.inl ⟨by rfl, ?hyb3⟩) hHeld ?rrb3
           case hyb3 => (intro w hSw; (try dsimp only at hSw); go_simp; try with_reducible rfl))
        | (refine wpAnyH_take (i := 3) (oi := ⟨some 104, _, _, _, _, _⟩) (v := undef) rfl (by kernel_rfl) (by kernel_rfl) (by kernel_rfl) (fun _ _ _ h => h) (Or.inr ⟨by rfl, rfl⟩) hHeld ?rrb3)
      try simp only [Act.put, List.setIfInBounds_toArray, List.set_cons_zero, List.set_cons_succ]
      first
        | (refine wpAnyH_take (i := 4) (oi := ⟨some 105, _, _, _, _, _⟩) (v := ?vb4) rfl (by kernel_rfl) (by kernel_rfl) (by kernel_rfl) (fun _ _ _ h => h) (Or.inl ⟨by rfl, ?hyb4⟩) hHeld ?rrb4
           case hyb4 => (intro w hSw; (try dsimp only at hSw); go_simp; try with_reducible rfl))
        | (refine wpAnyH_take (i := 4) (oi := ⟨some 105, _, _, _, _, _⟩) (v := undef) rfl (by kernel_rfl) (by kernel_rfl) (by kernel_rfl) (fun _ _ _ h => h) (Or.inr ⟨by rfl, rfl⟩) hHeld ?rrb4)
      try simp only [Act.put, List.setIfInBounds_toArray, List.set_cons_zero, List.set_cons_succ]
      first
        | (refine wpAnyH_take (i := 5) (oi := ⟨some 106, _, _, _, _, _⟩) (v := ?vb5) rfl (by kernel_rfl) (by kernel_rfl) (by kernel_rfl) (fun _ _ _ h => h) (Or.inl ⟨by rfl, ?hyb5⟩) hHeld ?rrb5
           case hyb5 => (intro w hSw; (try dsimp only at hSw); go_simp; try with_reducible rfl))
        | (refine wpAnyH_take (i := 5) (oi := ⟨some 106, _, _, _, _, _⟩) (v := undef) rfl (by kernel_rfl) (by kernel_rfl) (by kernel_rfl) (fun _ _ _ h => h) (Or.inr ⟨by rfl, rfl⟩) hHeld ?rrb5)
      try simp only [Act.put, List.setIfInBounds_toArray, List.set_cons_zero, List.set_cons_succ]
      first
        | (refine wpAnyH_take (i := 6) (oi := ⟨some 107, _, _, _, _, _⟩) (v := ?vb6) rfl (by kernel_rfl) (by kernel_rfl) (by kernel_rfl) (fun _ _ _ h => h) (Or.inl ⟨by rfl, ?hyb6⟩) hHeld ?rrb6
           case hyb6 => (intro w hSw; (try dsimp only at hSw); go_simp; try with_reducible rfl))
        | (refine wpAnyH_take (i := 6) (oi := ⟨some 107, _, _, _, _, _⟩) (v := undef) rfl (by kernel_rfl) (by kernel_rfl) (by kernel_rfl) (fun _ _ _ h => h) (Or.inr ⟨by rfl, rfl⟩) hHeld ?rrb6)
      try simp only [Act.put, List.setIfInBounds_toArray, List.set_cons_zero, List.set_cons_succ]
      first
        | (refine wpAnyH_take (i := 7) (oi := ⟨some 108, _, _, _, _, _⟩) (v := ?vb7) rfl (by kernel_rfl) (by kernel_rfl) (by kernel_rfl) (fun _ _ _ h => h) (Or.inl ⟨by rfl, ?hyb7⟩) hHeld ?rrb7
           case hyb7 => (intro w hSw; (try dsimp only at hSw); go_simp; try with_reducible rfl))
        | (refine wpAnyH_take (i := 7) (oi := ⟨some 108, _, _, _, _, _⟩) (v := undef) rfl (by kernel_rfl) (by kernel_rfl) (by kernel_rfl) (fun _ _ _ h => h) (Or.inr ⟨by rfl, rfl⟩) hHeld ?rrb7)
      try simp only [Act.put, List.setIfInBounds_toArray, List.set_cons_zero, List.set_cons_succ]
      first
        | (refine wpAnyH_take (i := 8) (oi := ⟨some 109, _, _, _, _, _⟩) (v := ?vb8) rfl (by kernel_rfl) (by kernel_rfl) (by kernel_rfl) (fun _ _ _ h => h) (Or.inl ⟨by rfl, ?hyb8⟩) hHeld ?rrb8
           case hyb8 => (intro w hSw; (try dsimp only at hSw); go_simp; try with_reducible rfl))
        | (refine wpAnyH_take (i := 8) (oi := ⟨some 109, _, _, _, _, _⟩) (v := undef) rfl (by kernel_rfl) (by kernel_rfl) (by kernel_rfl) (fun _ _ _ h => h) (Or.inr ⟨by rfl, rfl⟩) hHeld ?rrb8)
      try simp only [Act.put, List.setIfInBounds_toArray, List.set_cons_zero, List.set_cons_succ]
      first
        | (refine wpAnyH_take (i := 9) (oi := ⟨some 110, _, _, _, _, _⟩) (v := ?vb9) rfl (by kernel_rfl) (by kernel_rfl) (by kernel_rfl) (fun _ _ _ h => h) (Or.inl ⟨by rfl, ?hyb9⟩) hHeld ?rrb9
           case hyb9 => (intro w hSw; (try dsimp only at hSw); go_simp; try with_reducible rfl))
        | (refine wpAnyH_take (i := 9) (oi := ⟨some 110, _, _, _, _, _⟩) (v := undef) rfl (by kernel_rfl) (by kernel_rfl) (by kernel_rfl) (fun _ _ _ h => h) (Or.inr ⟨by rfl, rfl⟩) hHeld ?rrb9)
      try simp only [Act.put, List.setIfInBounds_toArray, List.set_cons_zero, List.set_cons_succ]
      first
        | (refine wpAnyH_take (i := 10) (oi := ⟨some 111, _, _, _, _, _⟩) (v := ?vb10) rfl (by kernel_rfl) (by kernel_rfl) (by kernel_rfl) (fun _ _ _ h => h) (Or.inl ⟨by rfl, ?hyb10⟩) hHeld ?rrb10
           case hyb10 => (intro w hSw; (try dsimp only at hSw); go_simp; try with_reducible rfl))
        | (refine wpAnyH_take (i := 10) (oi := ⟨some 111, _, _, _, _, _⟩) (v := undef) rfl (by kernel_rfl) (by kernel_rfl) (by kernel_rfl) (fun _ _ _ h => h) (Or.inr ⟨by rfl, rfl⟩) hHeld ?rrb10)
      try simp only [Act.put, List.setIfInBounds_toArray, List.set_cons_zero, List.set_cons_succ]
      first
        | (refine wpAnyH_take (i := 11) (oi := ⟨some 112, _, _, _, _, _⟩) (v := ?vb11) rfl (by kernel_rfl) (by kernel_rfl) (by kernel_rfl) (fun _ _ _ h => h) (Or.inl ⟨by rfl, ?hyb11⟩) hHeld ?rrb11
           case hyb11 => (intro w hSw; (try dsimp only at hSw); go_simp; try with_reducible rfl))
        | (refine wpAnyH_take (i := 11) (oi := ⟨some 112, _, _, _, _, _⟩) (v := undef) rfl (by kernel_rfl) (by kernel_rfl) (by kernel_rfl) (fun _ _ _ h => h) (Or.inr ⟨by rfl, rfl⟩) hHeld ?rrb11)
      try simp only [Act.put, List.setIfInBounds_toArray, List.set_cons_zero, List.set_cons_succ]
      first
        | (refine wpAnyH_take (i := 12) (oi := ⟨some 113, _, _, _, _, _⟩) (v := ?vb12) rfl (by kernel_rfl) (by kernel_rfl) (by kernel_rfl) (fun _ _ _ h => h) (Or.inl ⟨by rfl, ?hyb12⟩) hHeld ?rrb12
           case hyb12 => (intro w hSw; (try dsimp only at hSw); go_simp; try with_reducible rfl))
        | (refine wpAnyH_take (i := 12) (oi := ⟨some 113, _, _, _, _, _⟩) (v := undef) rfl (by kernel_rfl) (by kernel_rfl) (by kernel_rfl) (fun _ _ _ h => h) (Or.inr ⟨by rfl, rfl⟩) hHeld ?rrb12)
      try simp only [Act.put, List.setIfInBounds_toArray, List.set_cons_zero, List.set_cons_succ]
      first
        | (refine wpAnyH_take (i := 13) (oi := ⟨some 114, _, _, _, _, _⟩) (v := ?vb13) rfl (by kernel_rfl) (by kernel_rfl) (by kernel_rfl) (fun _ _ _ h => h) (Or.inl ⟨by rfl, ?hyb13⟩) hHeld ?rrb13
           case hyb13 => (intro w hSw; (try dsimp only at hSw); go_simp; try with_reducible rfl))
        | (refine wpAnyH_take (i := 13) (oi := ⟨some 114, _, _, _, _, _⟩) (v := undef) rfl (by kernel_rfl) (by kernel_rfl) (by kernel_rfl) (fun _ _ _ h => h) (Or.inr ⟨by rfl, rfl⟩) hHeld ?rrb13)
      try simp only [Act.put, List.setIfInBounds_toArray, List.set_cons_zero, List.set_cons_succ]
      first
        | (refine wpAnyH_take (i := 14) (oi := ⟨some 115, _, _, _, _, _⟩) (v := ?vb14) rfl (by kernel_rfl) (by kernel_rfl) (by kernel_rfl) (fun _ _ _ h => h) (Or.inl ⟨by rfl, ?hyb14⟩) hHeld ?rrb14
           case hyb14 => (intro w hSw; (try dsimp only at hSw); go_simp; try with_reducible rfl))
        | (refine wpAnyH_take (i := 14) (oi := ⟨some 115, _, _, _, _, _⟩) (v := undef) rfl (by kernel_rfl) (by kernel_rfl) (by kernel_rfl) (fun _ _ _ h => h) (Or.inr ⟨by rfl, rfl⟩) hHeld ?rrb14)
      try simp only [Act.put, List.setIfInBounds_toArray, List.set_cons_zero, List.set_cons_succ]
      first
        | (refine wpAnyH_take (i := 15) (oi := ⟨some 116, _, _, _, _, _⟩) (v := ?vb15) rfl (by kernel_rfl) (by kernel_rfl) (by kernel_rfl) (fun _ _ _ h => h) (Or.inl ⟨by rfl, ?hyb15⟩) hHeld ?rrb15
           case hyb15 => (intro w hSw; (try dsimp only at hSw); go_simp; try with_reducible rfl))
        | (refine wpAnyH_take (i := 15) (oi := ⟨some 116, _, _, _, _, _⟩) (v := undef) rfl (by kernel_rfl) (by kernel_rfl) (by kernel_rfl) (fun _ _ _ h => h) (Or.inr ⟨by rfl, rfl⟩) hHeld ?rrb15)
      try simp only [Act.put, List.setIfInBounds_toArray, List.set_cons_zero, List.set_cons_succ]
      first
        | (refine wpAnyH_take (i := 16) (oi := ⟨some 117, _, _, _, _, _⟩) (v := ?vb16) rfl (by kernel_rfl) (by kernel_rfl) (by kernel_rfl) (fun _ _ _ h => h) (Or.inl ⟨by rfl, ?hyb16⟩) hHeld ?rrb16
           case hyb16 => (intro w hSw; (try dsimp only at hSw); go_simp; try with_reducible rfl))
        | (refine wpAnyH_take (i := 16) (oi := ⟨some 117, _, _, _, _, _⟩) (v := undef) rfl (by kernel_rfl) (by kernel_rfl) (by kernel_rfl) (fun _ _ _ h => h) (Or.inr ⟨by rfl, rfl⟩) hHeld ?rrb16)
      try simp only [Act.put, List.setIfInBounds_toArray, List.set_cons_zero, List.set_cons_succ]
      first
        | (refine wpAnyH_take (i := 17) (oi := ⟨some 118, _, _, _, _, _⟩) (v := ?vb17) rfl (by kernel_rfl) (by kernel_rfl) (by kernel_rfl) (fun _ _ _ h => h) (Or.inl ⟨by rfl, ?hyb17⟩) hHeld ?rrb17
           case hyb17 => (intro w hSw; (try dsimp only at hSw); go_simp; try with_reducible rfl))
        | (refine wpAnyH_take (i := 17) (oi := ⟨some 118, _, _, _, _, _⟩) (v := undef) rfl (by kernel_rfl) (by kernel_rfl) (by kernel_rfl) (fun _ _ _ h => h) (Or.inr ⟨by rfl, rfl⟩) hHeld ?rrb17)
      try simp only [Act.put, List.setIfInBounds_toArray, List.set_cons_zero, List.set_cons_succ]
      first
        | (refine wpAnyH_take (i := 18) (oi := ⟨some 119, _, _, _, _, _⟩) (v := ?vb18) rfl (by kernel_rfl) (by kernel_rfl) (by kernel_rfl) (fun _ _ _ h => h) (Or.inl ⟨by rfl, ?hyb18⟩) hHeld ?rrb18
           case hyb18 => (intro w hSw; (try dsimp only at hSw); go_simp; try with_reducible rfl))
        | (refine wpAnyH_take (i := 18) (oi := ⟨some 119, _, _, _, _, _⟩) (v := undef) rfl (by kernel_rfl) (by kernel_rfl) (by kernel_rfl) (fun _ _ _ h => h) (Or.inr ⟨by rfl, rfl⟩) hHeld ?rrb18)
      try simp only [Act.put, List.setIfInBounds_toArray, List.set_cons_zero, List.set_cons_succ]
      first
        | (refine wpAnyH_take (i := 19) (oi := ⟨some 120, _, _, _, _, _⟩) (v := ?vb19) rfl (by kernel_rfl) (by kernel_rfl) (by kernel_rfl) (fun _ _ _ h => h) (Or.inl ⟨by rfl, ?hyb19⟩) hHeld ?rrb19
           case hyb19 => (intro w hSw; (try dsimp only at hSw); go_simp; try with_reducible rfl))
        | (refine wpAnyH_take (i := 19) (oi := ⟨some 120, _, _, _, _, _⟩) (v := undef) rfl (by kernel_rfl) (by kernel_rfl) (by kernel_rfl) (fun _ _ _ h => h) (Or.inr ⟨by rfl, rfl⟩) hHeld ?rrb19)
      try simp only [Act.put, List.setIfInBounds_toArray, List.set_cons_zero, List.set_cons_succ]
      first
        | (refine wpAnyH_take (i := 20) (oi := ⟨some 121, _, _, _, _, _⟩) (v := ?vb20) rfl (by kernel_rfl) (by kernel_rfl) (by kernel_rfl) (fun _ _ _ h => h) (Or.inl ⟨by rfl, ?hyb20⟩) hHeld ?rrb20
           case hyb20 => (intro w hSw; (try dsimp only at hSw); go_simp; try with_reducible rfl))
        | (refine wpAnyH_take (i := 20) (oi := ⟨some 121, _, _, _, _, _⟩) (v := undef) rfl (by kernel_rfl) (by kernel_rfl) (by kernel_rfl) (fun _ _ _ h => h) (Or.inr ⟨by rfl, rfl⟩) hHeld ?rrb20)
      try simp only [Act.put, List.setIfInBounds_toArray, List.set_cons_zero, List.set_cons_succ]
      first
        | (refine wpAnyH_take (i := 21) (oi := ⟨some 122, _, _, _, _, _⟩) (v := ?vb21) rfl (by kernel_rfl) (by kernel_rfl) (by kernel_rfl) (fun _ _ _ h => h) (Or.inl ⟨by rfl, ?hyb21⟩) hHeld ?rrb21
           case hyb21 => (intro w hSw; (try dsimp only at hSw); go_simp; try with_reducible rfl))
        | (refine wpAnyH_take (i := 21) (oi := ⟨some 122, _, _, _, _, _⟩) (v := undef) rfl (by kernel_rfl) (by kernel_rfl) (by kernel_rfl) (fun _ _ _ h => h) (Or.inr ⟨by rfl, rfl⟩) hHeld ?rrb21)
      try simp only [Act.put, List.setIfInBounds_toArray, List.set_cons_zero, List.set_cons_succ]
      first
        | (refine wpAnyH_take (i := 22) (oi := ⟨some 123, _, _, _, _, _⟩) (v := ?vb22) rfl (by kernel_rfl) (by kernel_rfl) (by kernel_rfl) (fun _ _ _ h => h) (Or.inl ⟨by rfl, ?hyb22⟩) hHeld ?rrb22
           case hyb22 => (intro w hSw; (try dsimp only at hSw); go_simp; try with_reducible rfl))
        | (refine wpAnyH_take (i := 22) (oi := ⟨some 123, _, _, _, _, _⟩) (v := undef) rfl (by kernel_rfl) (by kernel_rfl) (by kernel_rfl) (fun _ _ _ h => h) (Or.inr ⟨by rfl, rfl⟩) hHeld ?rrb22)
      try simp only [Act.put, List.setIfInBounds_toArray, List.set_cons_zero, List.set_cons_succ]
      first
        | (refine wpAnyH_take (i := 23) (oi := ⟨some 124, _, _, _, _, _⟩) (v := ?vb23) rfl (by kernel_rfl) (by kernel_rfl) (by kernel_rfl) (fun _ _ _ h => h) (Or.inl ⟨by rfl, ?hyb23⟩) hHeld ?rrb23
           case hyb23 => (intro w hSw; (try dsimp only at hSw); go_simp; try with_reducible rfl))
        | (refine wpAnyH_take (i := 23) (oi := ⟨some 124, _, _, _, _, _⟩) (v := undef) rfl (by kernel_rfl) (by kernel_rfl) (by kernel_rfl) (fun _ _ _ h => h) (Or.inr ⟨by rfl, rfl⟩) hHeld ?rrb23)
      try simp only [Act.put, List.setIfInBounds_toArray, List.set_cons_zero, List.set_cons_succ]
      first
        | (refine wpAnyH_take (i := 24) (oi := ⟨some 125, _, _, _, _, _⟩) (v := ?vb24) rfl (by kernel_rfl) (by kernel_rfl) (by kernel_rfl) (fun _ _ _ h => h) (Or.inl ⟨by rfl, ?hyb24⟩) hHeld ?rrb24
           case hyb24 => (intro w hSw; (try dsimp only at hSw); go_simp; try with_reducible rfl))
        | (refine wpAnyH_take (i := 24) (oi := ⟨some 125, _, _, _, _, _⟩) (v := undef) rfl (by kernel_rfl) (by kernel_rfl) (by kernel_rfl) (fun _ _ _ h => h) (Or.inr ⟨by rfl, rfl⟩) hHeld ?rrb24)
      try simp only [Act.put, List.setIfInBounds_toArray, List.set_cons_zero, List.set_cons_succ]
      first
        | (refine wpAnyH_take (i := 25) (oi := ⟨some 126, _, _, _, _, _⟩) (v := ?vb25) rfl (by kernel_rfl) (by kernel_rfl) (by kernel_rfl) (fun _ _ _ h => h) (Or.inl ⟨by rfl, ?hyb25⟩) hHeld ?rrb25
           case hyb25 => (intro w hSw; (try dsimp only at hSw); go_simp; try with_reducible rfl))
        | (refine wpAnyH_take (i := 25) (oi := ⟨some 126, _, _, _, _, _⟩) (v := undef) rfl (by kernel_rfl) (by kernel_rfl) (by kernel_rfl) (fun _ _ _ h => h) (Or.inr ⟨by rfl, rfl⟩) hHeld ?rrb25)
      try simp only [Act.put, List.setIfInBounds_toArray, List.set_cons_zero, List.set_cons_succ]
      first
        | (refine wpAnyH_take (i := 26) (oi := ⟨some 127, _, _, _, _, _⟩) (v := ?vb26) rfl (by kernel_rfl) (by kernel_rfl) (by kernel_rfl) (fun _ _ _ h => h) (Or.inl ⟨by rfl, ?hyb26⟩) hHeld ?rrb26
           case hyb26 => (intro w hSw; (try dsimp only at hSw); go_simp; try with_reducible rfl))
        | (refine wpAnyH_take (i := 26) (oi := ⟨some 127, _, _, _, _, _⟩) (v := undef) rfl (by kernel_rfl) (by kernel_rfl) (by kernel_rfl) (fun _ _ _ h => h) (Or.inr ⟨by rfl, rfl⟩) hHeld ?rrb26)
      try simp only [Act.put, List.setIfInBounds_toArray, List.set_cons_zero, List.set_cons_succ]
      first
        | (refine wpAnyH_take (i := 27) (oi := ⟨some 128, _, _, _, _, _⟩) (v := ?vb27) rfl (by kernel_rfl) (by kernel_rfl) (by kernel_rfl) (fun _ _ _ h => h) (Or.inl ⟨by rfl, ?hyb27⟩) hHeld ?rrb27
           case hyb27 => (intro w hSw; (try dsimp only at hSw); go_simp; try with_reducible rfl))
        | (refine wpAnyH_take (i := 27) (oi := ⟨some 128, _, _, _, _, _⟩) (v := undef) rfl (by kernel_rfl) (by kernel_rfl) (by kernel_rfl) (fun _ _ _ h => h) (Or.inr ⟨by rfl, rfl⟩) hHeld ?rrb27)
      try simp only [Act.put, List.setIfInBounds_toArray, List.set_cons_zero, List.set_cons_succ]
      first
        | (refine wpAnyH_take (i := 28) (oi := ⟨some 129, _, _, _, _, _⟩) (v := ?vb28) rfl (by kernel_rfl) (by kernel_rfl) (by kernel_rfl) (fun _ _ _ h => h) (Or.inl ⟨by rfl, ?hyb28⟩) hHeld ?rrb28
           case hyb28 => (intro w hSw; (try dsimp only at hSw); go_simp; try with_reducible rfl))
        | (refine wpAnyH_take (i := 28) (oi := ⟨some 129, _, _, _, _, _⟩) (v := undef) rfl (by kernel_rfl) (by kernel_rfl) (by kernel_rfl) (fun _ _ _ h => h) (Or.inr ⟨by rfl, rfl⟩) hHeld ?rrb28)
      try simp only [Act.put, List.setIfInBounds_toArray, List.set_cons_zero, List.set_cons_succ]
      first
        | (refine wpAnyH_take (i := 29) (oi := ⟨some 130, _, _, _, _, _⟩) (v := ?vb29) rfl (by kernel_rfl) (by kernel_rfl) (by kernel_rfl) (fun _ _ _ h => h) (Or.inl ⟨by rfl, ?hyb29⟩) hHeld ?rrb29
           case hyb29 => (intro w hSw; (try dsimp only at hSw); go_simp; try with_reducible rfl))
        | (refine wpAnyH_take (i := 29) (oi := ⟨some 130, _, _, _, _, _⟩) (v := undef) rfl (by kernel_rfl) (by kernel_rfl) (by kernel_rfl) (fun _ _ _ h => h) (Or.inr ⟨by rfl, rfl⟩) hHeld ?rrb29)
      try simp only [Act.put, List.setIfInBounds_toArray, List.set_cons_zero, List.set_cons_succ]
      first
        | (refine wpAnyH_take (i := 30) (oi := ⟨some 131, _, _, _, _, _⟩) (v := ?vb30) rfl (by kernel_rfl) (by kernel_rfl) (by kernel_rfl) (fun _ _ _ h => h) (Or.inl ⟨by rfl, ?hyb30⟩) hHeld ?rrb30
           case hyb30 => (intro w hSw; (try dsimp only at hSw); go_simp; try with_reducible rfl))
        | (refine wpAnyH_take (i := 30) (oi := ⟨some 131, _, _, _, _, _⟩) (v := undef) rfl (by kernel_rfl) (by kernel_rfl) (by kernel_rfl) (fun _ _ _ h => h) (Or.inr ⟨by rfl, rfl⟩) hHeld ?rrb30)
      try simp only [Act.put, List.setIfInBounds_toArray, List.set_cons_zero, List.set_cons_succ]
      first
        | (refine wpAnyH_take (i := 31) (oi := ⟨some 4, _, _, _, _, _⟩) (v := ?vb31) rfl (by kernel_rfl) (by kernel_rfl) (by kernel_rfl) (fun _ _ _ h => h) (Or.inl ⟨by rfl, ?hyb31⟩) hHeld ?rrb31
           case hyb31 => (intro w hSw; (try dsimp only at hSw); go_simp; try with_reducible rfl))
        | (refine wpAnyH_take (i := 31) (oi := ⟨some 4, _, _, _, _, _⟩) (v := undef) rfl (by kernel_rfl) (by kernel_rfl) (by kernel_rfl) (fun _ _ _ h => h) (Or.inr ⟨by rfl, rfl⟩) hHeld ?rrb31)
      try simp only [Act.put, List.setIfInBounds_toArray, List.set_cons_zero, List.set_cons_succ]
      refine wpAnyH_done (by kernel_rfl) ?_ _
      refine NoPanic.normal ?_
      go_wp2
      go_ret
      exact ⟨rfl, HB9.out.drew⟩
  · have hc := neO_not hn0 (by unfold errK; omega) hp ho
    simp only at hc
    have HN := Lib.hid (mnew_no 3 2 0 (by unfold b64i; omega) (⟨fr, dst, pr, tt, id, df, mf, off, ps⟩ : Pk) hpm ho)
    clear ho hp
    go_wp2_with fail
    refine (HN.out _).mono ?_
    rintro e w4 ⟨rfl, hb⟩
    have hB := ((hB3 _ _ _).trans (hb.mono (hB3 _ _ _).size)).alloc ((hB3 _ _ _).trans (hb.mono (hB3 _ _ _).size)).size (mo mz)
    have hP := blk_alloc (blk_below (hP3 _ _ _) hb (blk_lt (hP3 _ _ _))) (mo mz)
    clear hb HN hB3 hP3
    obtain ⟨c0, -⟩ := blk_cell (k := 0) hP rfl
    obtain ⟨c1, -⟩ := blk_cell (k := 1) hP rfl
    obtain ⟨c2, -⟩ := blk_cell (k := 2) hP rfl
    obtain ⟨c3, -⟩ := blk_cell (k := 3) hP rfl
    obtain ⟨c4, -⟩ := blk_cell (k := 4) hP rfl
    obtain ⟨c5, -⟩ := blk_cell (k := 5) hP rfl
    obtain ⟨c6, -⟩ := blk_cell (k := 6) hP rfl
    obtain ⟨c7, -⟩ := blk_cell (k := 7) hP rfl
    obtain ⟨c8, -⟩ := blk_cell (k := 8) hP rfl
    simp only [List.getElem_toArray, List.getElem_cons_zero, List.getElem_cons_succ] at c0 c1 c2 c3 c4 c5 c6 c7 c8
    rcases hc with h | ⟨h, h2⟩ | ⟨h, h2, h3⟩
    · have h7 : (off != 0) = true := by simp [h]
      clear h
      go_wp2
      go_ret
      exact ⟨rfl, hB⟩
    · have h7 : (off != 0) = false := by simp [h]
      have h8 : (dst == 4294967295) = true := by simpa using h2
      clear h h2
      go_wp2
      go_ret
      exact ⟨rfl, hB⟩
    · have h7 : (off != 0) = false := by simp [h]
      have h8 : (dst == 4294967295) = false := by simpa using h2
      have h9 : (pr == 1) = true := by simpa using h3
      clear h h2 h3
      go_wp2
      go_ret
      exact ⟨rfl, hB⟩

set_option maxRecDepth 100000 in
set_option maxHeartbeats 6400000 in
theorem quo_1 (x : Rw) (which : Int) (w : World) (hx : x.ok) (l1 : -9223372036854775808 ≤ which) (u1 : which ≤ 9223372036854775807) (ea : Addr) (E : Env w ea) (hq : pickZ which 4 = 1) :
    Calls Tryd.prog 8 #[rv x, .int .i64 which] w fun e w' => e = .returned (.bool true) ∧ Below w.heap.size w w' := by
  have hB := (Below.refl _ w).alloc (Nat.le_refl _) (ro x)
  have hX := blk_new w (ro x)
  have HP := Lib.hid (fun w => pick8_any which 4 w l1 u1 (by omega) (by omega))
  rw [hq] at HP
  clear hq l1 u1
  go_enter Tryd.func8, Tryd.ntmps8
  go_wp2_with fail
  refine (msane_any _ ea (cell_alloc E _)).mono ?_
  rintro e w1 ⟨rfl, hb⟩
  replace hB := hB.trans (hb.mono hB.size)
  replace hX := blk_below hX hb (blk_lt hX)
  clear hb E
  obtain ⟨x0, -⟩ := blk_cell (k := 0) hX rfl
  obtain ⟨x1, -⟩ := blk_cell (k := 1) hX rfl
  obtain ⟨x2, -⟩ := blk_cell (k := 2) hX rfl
  obtain ⟨x3, -⟩ := blk_cell (k := 3) hX rfl
  obtain ⟨x4, -⟩ := blk_cell (k := 4) hX rfl
  obtain ⟨x5, -⟩ := blk_cell (k := 5) hX rfl
  obtain ⟨x6, -⟩ := blk_cell (k := 6) hX rfl
  obtain ⟨x7, -⟩ := blk_cell (k := 7) hX rfl
  obtain ⟨x8, -⟩ := blk_cell (k := 8) hX rfl
  simp only [List.getElem_toArray, List.getElem_cons_zero, List.getElem_cons_succ] at x0 x1 x2 x3 x4 x5 x6 x7 x8
  go_wp2_with fail
  refine (packet_any x hx _).mono ?_
  rintro e w2 ⟨⟨p0, rfl, hp, hp300⟩, hb⟩
  replace hB := hB.trans (hb.mono hB.size)
  clear hb hX
  clear x0 x1 x2 x3 x4 x5 x6 x7 x8
  obtain ⟨fr, dst, pr, tt, id, df, mf, off, ps⟩ := p0
  simp only at hp hp300
  have hP := blk_new w2 (po (⟨fr, dst, pr, tt, id, df, mf, off, ps⟩ : Pk))
  replace hB := hB.alloc hB.size (po (⟨fr, dst, pr, tt, id, df, mf, off, ps⟩ : Pk))
  have hpm : ps.size ≤ maxLen := Nat.le_trans hp300 (by decide)
  go_wp2_with (go_at_call 23; refine (HP.out _).mono ?_; rintro e w3 ⟨rfl, rfl⟩)
  have hn1 : numK 3 4 0 := by unfold numK; omega
  have hB3 : ∀ o o2 o3, Below w.heap.size w ((((w2.alloc (po (⟨fr, dst, pr, tt, id, df, mf, off, ps⟩ : Pk))).alloc o).alloc o2).alloc o3) := fun o o2 o3 => ((hB.alloc hB.size o).alloc (hB.alloc hB.size o).size o2).alloc ((hB.alloc hB.size o).alloc (hB.alloc hB.size o).size o2).size o3
  have hP3 : ∀ o o2 o3, ((((w2.alloc (po (⟨fr, dst, pr, tt, id, df, mf, off, ps⟩ : Pk))).alloc o).alloc o2).alloc o3).heap[w2.heap.size]? = some (po (⟨fr, dst, pr, tt, id, df, mf, off, ps⟩ : Pk)) := fun o o2 o3 => blk_alloc (blk_alloc (blk_alloc hP o) o2) o3
  clear hB hP
  by_cases ho : neO 3 4 0 (⟨fr, dst, pr, tt, id, df, mf, off, ps⟩ : Pk)
  · have h7 : (off != 0) = false := by have := ho.2.1; simp only at this; simp [this]
    have h8 : (dst == 4294967295) = false := by have := ho.2.2.1; simpa using this
    have HN := Lib.hid (mnew_yes 3 4 0 (by unfold b64i; omega) (⟨fr, dst, pr, tt, id, df, mf, off, ps⟩ : Pk) ho)
    have hokE := ho.2.2.2.2
    have hsz := neM_size 3 4 0 (⟨fr, dst, pr, tt, id, df, mf, off, ps⟩ : Pk)
    obtain ⟨cut1, cut2⟩ := enc_cut (⟨fr, dst, pr, tt, id, df, mf, off, ps⟩ : Pk) hp (min (20 + ps.size) 28) (by omega) (by simp only; omega)
    have HSP := Lib.hid (encode_yes (⟨fr, dst, pr, tt, id, df, mf, off, ps⟩ : Pk) hpm hp)
    have hzp := enc_size (⟨fr, dst, pr, tt, id, df, mf, off, ps⟩ : Pk)
    simp only at hzp
    obtain ⟨X, hX⟩ : ∃ X, (encP (⟨fr, dst, pr, tt, id, df, mf, off, ps⟩ : Pk)).extract 0 (min (20 + ps.size) 28) = X := ⟨_, rfl⟩
    have hM : neM 3 4 0 (⟨fr, dst, pr, tt, id, df, mf, off, ps⟩ : Pk) = ⟨3, 4, 0, X⟩ := by rw [← hX]; rfl
    rw [hM] at HN hokE hsz
    rw [hX] at cut1 cut2
    have HQ := Lib.hid (mquoted_yes ⟨3, 4, 0, X⟩ (by show b64i 3; unfold b64i; omega) (Nat.le_trans hsz (by decide)) hokE cut2)
    rw [show (⟨3, 4, 0, X⟩ : Ms).s = X from rfl, cut1] at HQ
    obtain ⟨qs, hqs⟩ : ∃ qs, ps.extract 0 (min (20 + ps.size) 28 - 20) = qs := ⟨_, rfl⟩
    have HQ2 : Hid (∀ w : World, Calls Tryd.prog 18 #[mv ⟨3, 4, 0, X⟩] w fun e w' => e = .returned (.tuple #[pv (⟨fr, dst, pr, tt, id, df, mf, off, qs⟩ : Pk), .bool true]) ∧ Below w.heap.size w w') := by
      rw [← hqs]; exact HQ.out
    have HE := Lib.hid (mencode_yes ⟨3, 4, 0, X⟩ hokE.2)
    have hez := encM_size ⟨3, 4, 0, X⟩
    have hfb := fb_enc ⟨3, 4, 0, X⟩ hokE.2
    have HA := Lib.hid (mnew_no 3 4 0 (by unfold b64i; omega) (⟨1, fr, 1, 5, 0, false, false, 0, encM ⟨3, 4, 0, X⟩⟩ : Pk) (by show (encM _).size ≤ maxLen; rw [hez]; exact Nat.le_trans (Nat.add_le_add_left hsz 8) (by decide)) (fun h => h.2.2.2.1 ⟨rfl, by show 0 < (encM _).size; rw [hez]; omega, by show errK (fb (encM _)); rw [hfb]; exact hokE.1⟩))
    generalize encM ⟨3, 4, 0, X⟩ = S at *
    clear HQ hez hfb hsz hokE hM cut1 cut2 hqs ho hp
    generalize encP (⟨fr, dst, pr, tt, id, df, mf, off, ps⟩ : Pk) = SP at *
    go_wp2_with fail
    refine (HN.out _).mono ?_
    rintro e w4 ⟨rfl, hb⟩
    have hB := ((hB3 _ _ _).trans (hb.mono (hB3 _ _ _).size)).alloc ((hB3 _ _ _).trans (hb.mono (hB3 _ _ _).size)).size (mo ⟨3, 4, 0, X⟩)
    have hP := blk_alloc (blk_below (hP3 _ _ _) hb (blk_lt (hP3 _ _ _))) (mo ⟨3, 4, 0, X⟩)
    have hM := blk_new w4 (mo ⟨3, 4, 0, X⟩)
    clear hb hB3 hP3 HN
    obtain ⟨c0, -⟩ := blk_cell (k := 0) hP rfl
    obtain ⟨c1, -⟩ := blk_cell (k := 1) hP rfl
    obtain ⟨c2, -⟩ := blk_cell (k := 2) hP rfl
    obtain ⟨c3, -⟩ := blk_cell (k := 3) hP rfl
    obtain ⟨c4, -⟩ := blk_cell (k := 4) hP rfl
    obtain ⟨c5, -⟩ := blk_cell (k := 5) hP rfl
    obtain ⟨c6, -⟩ := blk_cell (k := 6) hP rfl
    obtain ⟨c7, -⟩ := blk_cell (k := 7) hP rfl
    obtain ⟨c8, -⟩ := blk_cell (k := 8) hP rfl
    simp only [List.getElem_toArray, List.getElem_cons_zero, List.getElem_cons_succ] at c0 c1 c2 c3 c4 c5 c6 c7 c8
    go_wp2_with fail
    refine (HQ2.out _).mono ?_
    rintro e w5 ⟨rfl, hb⟩
    have hwz5 := (hB.trans (hb.mono hB.size)).size
    have hPQ := blk_lt (blk_below hP hb (blk_lt hP))
    have hMQ := blk_lt (blk_below hM hb (blk_lt hM))
    replace hB := (hB.trans (hb.mono hB.size)).alloc (hB.trans (hb.mono hB.size)).size (po ⟨fr, dst, pr, tt, id, df, mf, off, qs⟩)
    replace hP := blk_alloc (blk_below hP hb (blk_lt hP)) (po ⟨fr, dst, pr, tt, id, df, mf, off, qs⟩)
    replace hM := blk_alloc (blk_below hM hb (blk_lt hM)) (po ⟨fr, dst, pr, tt, id, df, mf, off, qs⟩)
    have hQ := blk_new w5 (po ⟨fr, dst, pr, tt, id, df, mf, off, qs⟩)
    clear hb HQ2
    clear c0 c1 c2 c3 c4 c5 c6 c7 c8
    obtain ⟨c0, -⟩ := blk_cell (k := 0) hP rfl
    obtain ⟨c1, -⟩ := blk_cell (k := 1) hP rfl
    obtain ⟨c2, -⟩ := blk_cell (k := 2) hP rfl
    obtain ⟨c3, -⟩ := blk_cell (k := 3) hP rfl
    obtain ⟨c4, -⟩ := blk_cell (k := 4) hP rfl
    obtain ⟨c5, -⟩ := blk_cell (k := 5) hP rfl
    obtain ⟨c6, -⟩ := blk_cell (k := 6) hP rfl
    obtain ⟨c7, -⟩ := blk_cell (k := 7) hP rfl
    obtain ⟨c8, -⟩ := blk_cell (k := 8) hP rfl
    simp only [List.getElem_toArray, List.getElem_cons_zero, List.getElem_cons_succ] at c0 c1 c2 c3 c4 c5 c6 c7 c8
    go_wp2_with fail
    refine (HSP.out _).mono ?_
    rintro e w6 ⟨rfl, hb⟩
    replace hB := hB.trans (hb.mono hB.size)
    replace hP := blk_below hP hb (blk_lt hP)
    replace hM := blk_below hM hb (blk_lt hM)
    replace hQ := blk_below hQ hb (blk_lt hQ)
    clear hb HSP
    clear c0 c1 c2 c3 c4 c5 c6 c7 c8
    obtain ⟨y0, -⟩ := blk_cell (k := 0) hM rfl
    obtain ⟨y1, -⟩ := blk_cell (k := 1) hM rfl
    obtain ⟨y2, -⟩ := blk_cell (k := 2) hM rfl
    obtain ⟨y3, -⟩ := blk_cell (k := 3) hM rfl
    simp only [List.getElem_toArray, List.getElem_cons_zero, List.getElem_cons_succ] at y0 y1 y2 y3
    go_wp2_with fail
    refine (HE.out _).mono ?_
    rintro e w7 ⟨rfl, hb⟩
    replace hB := hB.trans (hb.mono hB.size)
    replace hP := blk_below hP hb (blk_lt hP)
    replace hM := blk_below hM hb (blk_lt hM)
    replace hQ := blk_below hQ hb (blk_lt hQ)
    clear hb HE
    clear y0 y1 y2 y3
    obtain ⟨c0, -⟩ := blk_cell (k := 0) hP rfl
    obtain ⟨c1, -⟩ := blk_cell (k := 1) hP rfl
    obtain ⟨c2, -⟩ := blk_cell (k := 2) hP rfl
    obtain ⟨c3, -⟩ := blk_cell (k := 3) hP rfl
    obtain ⟨c4, -⟩ := blk_cell (k := 4) hP rfl
    obtain ⟨c5, -⟩ := blk_cell (k := 5) hP rfl
    obtain ⟨c6, -⟩ := blk_cell (k := 6) hP rfl
    obtain ⟨c7, -⟩ := blk_cell (k := 7) hP rfl
    obtain ⟨c8, -⟩ := blk_cell (k := 8) hP rfl
    simp only [List.getElem_toArray, List.getElem_cons_zero, List.getElem_cons_succ] at c0 c1 c2 c3 c4 c5 c6 c7 c8
    go_wp2_with fail
    refine (HA.out _).mono ?_
    rintro e w8 ⟨rfl, hb⟩
    replace hB := (hB.trans (hb.mono hB.size)).alloc (hB.trans (hb.mono hB.size)).size (mo mz)
    replace hP := blk_alloc (blk_below hP hb (blk_lt hP)) (mo mz)
    replace hM := blk_alloc (blk_below hM hb (blk_lt hM)) (mo mz)
    replace hQ := blk_alloc (blk_below hQ hb (blk_lt hQ)) (mo mz)
    have hlt1 : w2.heap.size < w5.heap.size := hPQ
    have hlt2 : w4.heap.size < w5.heap.size := hMQ
    clear hb HA hPQ hMQ
    clear c0 c1 c2 c3 c4 c5 c6 c7 c8
    have hP9 := blk_set hP ⟨w5.heap.size, 8, none⟩ (fun e => by simp only at e; omega) (.string ps)
    have hM9 := blk_set hM ⟨w5.heap.size, 8, none⟩ (fun e => by simp only at e; omega) (.string ps)
    have hQ9 := blk_setc (k := 8) hQ (.string ps)
    have hB9 := hB.setCell (p := ⟨w5.heap.size, 8, none⟩) hwz5 (.string ps)
    simp only [List.setIfInBounds_toArray, List.set_cons_zero, List.set_cons_succ] at hQ9
    obtain ⟨c0, -⟩ := blk_cell (k := 0) hP rfl
    obtain ⟨c1, -⟩ := blk_cell (k := 1) hP rfl
    obtain ⟨c2, -⟩ := blk_cell (k := 2) hP rfl
    obtain ⟨c3, -⟩ := blk_cell (k := 3) hP rfl
    obtain ⟨c4, -⟩ := blk_cell (k := 4) hP rfl
    obtain ⟨c5, -⟩ := blk_cell (k := 5) hP rfl
    obtain ⟨c6, -⟩ := blk_cell (k := 6) hP rfl
    obtain ⟨c7, -⟩ := blk_cell (k := 7) hP rfl
    obtain ⟨c8, -⟩ := blk_cell (k := 8) hP rfl
    simp only [List.getElem_toArray, List.getElem_cons_zero, List.getElem_cons_succ] at c0 c1 c2 c3 c4 c5 c6 c7 c8
    obtain ⟨y0, -⟩ := blk_cell (k := 0) hM rfl
    obtain ⟨y1, -⟩ := blk_cell (k := 1) hM rfl
    obtain ⟨y2, -⟩ := blk_cell (k := 2) hM rfl
    obtain ⟨y3, -⟩ := blk_cell (k := 3) hM rfl
    simp only [List.getElem_toArray, List.getElem_cons_zero, List.getElem_cons_succ] at y0 y1 y2 y3
    obtain ⟨z0, -⟩ := blk_cell (k := 0) hQ rfl
    obtain ⟨z1, -⟩ := blk_cell (k := 1) hQ rfl
    obtain ⟨z2, -⟩ := blk_cell (k := 2) hQ rfl
    obtain ⟨z3, -⟩ := blk_cell (k := 3) hQ rfl
    obtain ⟨z4, -⟩ := blk_cell (k := 4) hQ rfl
    obtain ⟨z5, -⟩ := blk_cell (k := 5) hQ rfl
    obtain ⟨z6, -⟩ := blk_cell (k := 6) hQ rfl
    obtain ⟨z7, -⟩ := blk_cell (k := 7) hQ rfl
    obtain ⟨z8, -⟩ := blk_cell (k := 8) hQ rfl
    simp only [List.getElem_toArray, List.getElem_cons_zero, List.getElem_cons_succ] at z0 z1 z2 z3 z4 z5 z6 z7 z8
    have zf8 := (blk_cell (k := 8) hQ rfl).2
    obtain ⟨cc0, -⟩ := blk_cell (k := 0) hP9 rfl
    obtain ⟨cc1, -⟩ := blk_cell (k := 1) hP9 rfl
    obtain ⟨cc2, -⟩ := blk_cell (k := 2) hP9 rfl
    obtain ⟨cc3, -⟩ := blk_cell (k := 3) hP9 rfl
    obtain ⟨cc4, -⟩ := blk_cell (k := 4) hP9 rfl
    obtain ⟨cc5, -⟩ := blk_cell (k := 5) hP9 rfl
    obtain ⟨cc6, -⟩ := blk_cell (k := 6) hP9 rfl
    obtain ⟨cc7, -⟩ := blk_cell (k := 7) hP9 rfl
    obtain ⟨cc8, -⟩ := blk_cell (k := 8) hP9 rfl
    simp only [List.getElem_toArray, List.getElem_cons_zero, List.getElem_cons_succ] at cc0 cc1 cc2 cc3 cc4 cc5 cc6 cc7 cc8
    obtain ⟨yy0, -⟩ := blk_cell (k := 0) hM9 rfl
    obtain ⟨yy1, -⟩ := blk_cell (k := 1) hM9 rfl
    obtain ⟨yy2, -⟩ := blk_cell (k := 2) hM9 rfl
    obtain ⟨yy3, -⟩ := blk_cell (k := 3) hM9 rfl
    simp only [List.getElem_toArray, List.getElem_cons_zero, List.getElem_cons_succ] at yy0 yy1 yy2 yy3
    obtain ⟨zz0, -⟩ := blk_cell (k := 0) hQ9 rfl
    obtain ⟨zz1, -⟩ := blk_cell (k := 1) hQ9 rfl
    obtain ⟨zz2, -⟩ := blk_cell (k := 2) hQ9 rfl
    obtain ⟨zz3, -⟩ := blk_cell (k := 3) hQ9 rfl
    obtain ⟨zz4, -⟩ := blk_cell (k := 4) hQ9 rfl
    obtain ⟨zz5, -⟩ := blk_cell (k := 5) hQ9 rfl
    obtain ⟨zz6, -⟩ := blk_cell (k := 6) hQ9 rfl
    obtain ⟨zz7, -⟩ := blk_cell (k := 7) hQ9 rfl
    obtain ⟨zz8, -⟩ := blk_cell (k := 8) hQ9 rfl
    simp only [List.getElem_toArray, List.getElem_cons_zero, List.getElem_cons_succ] at zz0 zz1 zz2 zz3 zz4 zz5 zz6 zz7 zz8
    have HX := Lib.hid hX
    clear hX
    have HB9 := Lib.hid hB9
    have hne1 : (w2.heap.size = w5.heap.size) = False := eq_false (by omega)
    have hne2 : (w4.heap.size = w5.heap.size) = False := eq_false (by omega)
    clear hB9 hP hM hQ hP9 hM9 hQ9 hlt1 hlt2
    by_cases hl : SP.size ≤ 28
    · have k0 : (0 : Int) ≤ (SP.size : Int) := by omega
      have k1 : (SP.size : Int) ≤ 28 := by omega
      have k2 : ((28 : Int) < (SP.size : Int)) = False := eq_false (by omega)
      have hX' : SP.extract 0 SP.size = X := by rw [← HX.out]; congr 1; omega
      clear hl hzp
      go_wp2
      refine wp_region_noPanic ?_
      refine wp_region_held_drew (S := fun w' => w'.cell? ⟨w2.heap.size, 0, none⟩ = some (.int .i64 fr) ∧ w'.cell? ⟨w2.heap.size, 1, none⟩ = some (.int .i64 dst) ∧ w'.cell? ⟨w2.heap.size, 2, none⟩ = some (.int .i64 pr) ∧ w'.cell? ⟨w2.heap.size, 3, none⟩ = some (.int .i64 tt) ∧ w'.cell? ⟨w2.heap.size, 4, none⟩ = some (.int .i64 id) ∧ w'.cell? ⟨w2.heap.size, 5, none⟩ = some (.bool df) ∧ w'.cell? ⟨w2.heap.size, 6, none⟩ = some (.bool mf) ∧ w'.cell? ⟨w2.heap.size, 7, none⟩ = some (.int .i64 off) ∧ w'.cell? ⟨w2.heap.size, 8, none⟩ = some (.string ps) ∧ w'.cell? ⟨w4.heap.size, 3, none⟩ = some (.string X) ∧ w'.cell? ⟨w5.heap.size, 0, none⟩ = some (.int .i64 fr) ∧ w'.cell? ⟨w5.heap.size, 1, none⟩ = some (.int .i64 dst) ∧ w'.cell? ⟨w5.heap.size, 2, none⟩ = some (.int .i64 pr) ∧ w'.cell? ⟨w5.heap.size, 3, none⟩ = some (.int .i64 tt) ∧ w'.cell? ⟨w5.heap.size, 4, none⟩ = some (.int .i64 id) ∧ w'.cell? ⟨w5.heap.size, 5, none⟩ = some (.bool df) ∧ w'.cell? ⟨w5.heap.size, 6, none⟩ = some (.bool mf) ∧ w'.cell? ⟨w5.heap.size, 7, none⟩ = some (.int .i64 off) ∧ w'.cell? ⟨w5.heap.size, 8, none⟩ = some (.string ps)) (by kernel_rfl) (⟨cc0, cc1, cc2, cc3, cc4, cc5, cc6, cc7, cc8, yy3, zz0, zz1, zz2, zz3, zz4, zz5, zz6, zz7, zz8⟩) (fun hHeld => ?_)
      first
        | (refine wpAnyH_take (i := 0) (oi := ⟨some 101, _, _, _, _, _⟩) (v := ?va0) rfl (by kernel_rfl) (by kernel_rfl) (by kernel_rfl) (fun _ _ _ h => h) (Or.inl ⟨by rfl, ?hya0⟩) hHeld ?rra0
           case hya0 => (intro w hSw; (try dsimp only at hSw); go_simp; try with_reducible rfl))
        | (refine wpAnyH_take (i := 0) (oi := ⟨some 101, _, _, _, _, _⟩) (v := undef) rfl (by kernel_rfl) (by kernel_rfl) (by kernel_rfl) (fun _ _ _ h => h) (Or.inr ⟨by rfl, rfl⟩) hHeld ?rra0)
      try simp only [Act.put, List.setIfInBounds_toArray, List.set_cons_zero, List.set_cons_succ]
      first
        | (refine wpAnyH_take (i := 1) (oi := ⟨some 102, _, _, _, _, _⟩) (v := ?va1) rfl (by kernel_rfl) (by kernel_rfl) (by kernel_rfl) (fun _ _ _ h => h) (Or.inl ⟨by rfl, ?hya1⟩) hHeld ?rra1
           case hya1 => (intro w hSw; (try dsimp only at hSw); go_simp; try with_reducible rfl))
        | (refine wpAnyH_take (i := 1) (oi := ⟨some 102, _, _, _, _, _⟩) (v := undef) rfl (by kernel_rfl) (by kernel_rfl) (by kernel_rfl) (fun _ _ _ h => h) (Or.inr ⟨by rfl, rfl⟩) hHeld ?rra1)
      try simp only [Act.put, List.setIfInBounds_toArray, List.set_cons_zero, List.set_cons_succ]
      first
        | (refine wpAnyH_take (i := 2) (oi := ⟨some 103, _, _, _, _, _⟩) (v := ?va2) rfl (by kernel_rfl) (by kernel_rfl) (by kernel_rfl) (fun _ _ _ h => h) (Or.inl ⟨by rfl, ?hya2⟩) hHeld ?rra2
           case hya2 => (intro w hSw; (try dsimp only at hSw); go_simp; try with_reducible rfl))
        | (refine wpAnyH_take (i := 2) (oi := ⟨some 103, _, _, _, _, _⟩) (v := undef) rfl (by kernel_rfl) (by kernel_rfl) (by kernel_rfl) (fun _ _ _ h => h) (Or.inr ⟨by rfl, rfl⟩) hHeld ?rra2)
      try simp only [Act.put, List.setIfInBounds_toArray, List.set_cons_zero, List.set_cons_succ]
      first
        | (refine wpAnyH_take (i := 3) (oi := ⟨some 104, _, _, _, _, _⟩) (v := ?va3) rfl (by kernel_rfl) (by kernel_rfl) (by kernel_rfl) (fun _ _ _ h => h) (Or.inl ⟨by rfl, ?hya3⟩) hHeld ?rra3
           case hya3 => (intro w hSw; (try dsimp only at hSw); go_simp; try with_reducible rfl))
        | (refine wpAnyH_take (i := 3) (oi := ⟨some 104, _, _, _, _, _⟩) (v := undef) rfl (by kernel_rfl) (by kernel_rfl) (by kernel_rfl) (fun _ _ _ h => h) (Or.inr ⟨by rfl, rfl⟩) hHeld ?rra3)
      try simp only [Act.put, List.setIfInBounds_toArray, List.set_cons_zero, List.set_cons_succ]
      first
        | (refine wpAnyH_take (i := 4) (oi := ⟨some 105, _, _, _, _, _⟩) (v := ?va4) rfl (by kernel_rfl) (by kernel_rfl) (by kernel_rfl) (fun _ _ _ h => h) (Or.inl ⟨by rfl, ?hya4⟩) hHeld ?rra4
           case hya4 => (intro w hSw; (try dsimp only at hSw); go_simp; try with_reducible rfl))
        | (refine wpAnyH_take (i := 4) (oi := ⟨some 105, _, _, _, _, _⟩) (v := undef) rfl (by kernel_rfl) (by kernel_rfl) (by kernel_rfl) (fun _ _ _ h => h) (Or.inr ⟨by rfl, rfl⟩) hHeld ?rra4)
      try simp only [Act.put, List.setIfInBounds_toArray, List.set_cons_zero, List.set_cons_succ]
      first
        | (refine wpAnyH_take (i := 5) (oi := ⟨some 106, _, _, _, _, _⟩) (v := ?va5) rfl (by kernel_rfl) (by kernel_rfl) (by kernel_rfl) (fun _ _ _ h => h) (Or.inl ⟨by rfl, ?hya5⟩) hHeld ?rra5
           case hya5 => (intro w hSw; (try dsimp only at hSw); go_simp; try with_reducible rfl))
        | (refine wpAnyH_take (i := 5) (oi := ⟨some 106, _, _, _, _, _⟩) (v := undef) rfl (by kernel_rfl) (by kernel_rfl) (by kernel_rfl) (fun _ _ _ h => h) (Or.inr ⟨by rfl, rfl⟩) hHeld ?rra5)
      try simp only [Act.put, List.setIfInBounds_toArray, List.set_cons_zero, List.set_cons_succ]
      first
        | (refine wpAnyH_take (i := 6) (oi := ⟨some 107, _, _, _, _, _⟩) (v := ?va6) rfl (by kernel_rfl) (by kernel_rfl) (by kernel_rfl) (fun _ _ _ h => h) (Or.inl ⟨by rfl, ?hya6⟩) hHeld ?rra6
           case hya6 => (intro w hSw; (try dsimp only at hSw); go_simp; try with_reducible rfl))
        | (refine wpAnyH_take (i := 6) (oi := ⟨some 107, _, _, _, _, _⟩) (v := undef) rfl (by kernel_rfl) (by kernel_rfl) (by kernel_rfl) (fun _ _ _ h => h) (Or.inr ⟨by rfl, rfl⟩) hHeld ?rra6)
      try simp only [Act.put, List.setIfInBounds_toArray, List.set_cons_zero, List.set_cons_succ]
      first
        | (refine wpAnyH_take (i := 7) (oi := ⟨some 108, _, _, _, _, _⟩) (v := ?va7) rfl (by kernel_rfl) (by kernel_rfl) (by kernel_rfl) (fun _ _ _ h => h) (Or.inl ⟨by rfl, ?hya7⟩) hHeld ?rra7
           case hya7 => (intro w hSw; (try dsimp only at hSw); go_simp; try with_reducible rfl))
        | (refine wpAnyH_take (i := 7) (oi := ⟨some 108, _, _, _, _, _⟩) (v := undef) rfl (by kernel_rfl) (by kernel_rfl) (by kernel_rfl) (fun _ _ _ h => h) (Or.inr ⟨by rfl, rfl⟩) hHeld ?rra7)
      try simp only [Act.put, List.setIfInBounds_toArray, List.set_cons_zero, List.set_cons_succ]
      first
        | (refine wpAnyH_take (i := 8) (oi := ⟨some 109, _, _, _, _, _⟩) (v := ?va8) rfl (by kernel_rfl) (by kernel_rfl) (by kernel_rfl) (fun _ _ _ h => h) (Or.inl ⟨by rfl, ?hya8⟩) hHeld ?rra8
           case hya8 => (intro w hSw; (try dsimp only at hSw); go_simp; try with_reducible rfl))
        | (refine wpAnyH_take (i := 8) (oi := ⟨some 109, _, _, _, _, _⟩) (v := undef) rfl (by kernel_rfl) (by kernel_rfl) (by kernel_rfl) (fun _ _ _ h => h) (Or.inr ⟨by rfl, rfl⟩) hHeld ?rra8)
      try simp only [Act.put, List.setIfInBounds_toArray, List.set_cons_zero, List.set_cons_succ]
      first
        | (refine wpAnyH_take (i := 9) (oi := ⟨some 110, _, _, _, _, _⟩) (v := ?va9) rfl (by kernel_rfl) (by kernel_rfl) (by kernel_rfl) (fun _ _ _ h => h) (Or.inl ⟨by rfl, ?hya9⟩) hHeld ?rra9
           case hya9 => (intro w hSw; (try dsimp only at hSw); go_simp; try with_reducible rfl))
        | (refine wpAnyH_take (i := 9) (oi := ⟨some 110, _, _, _, _, _⟩) (v := undef) rfl (by kernel_rfl) (by kernel_rfl) (by kernel_rfl) (fun _ _ _ h => h) (Or.inr ⟨by rfl, rfl⟩) hHeld ?rra9)
      try simp only [Act.put, List.setIfInBounds_toArray, List.set_cons_zero, List.set_cons_succ]
      first
        | (refine wpAnyH_take (i := 10) (oi := ⟨some 111, _, _, _, _, _⟩) (v := ?va10) rfl (by kernel_rfl) (by kernel_rfl) (by kernel_rfl) (fun _ _ _ h => h) (Or.inl ⟨by rfl, ?hya10⟩) hHeld ?rra10
           case hya10 => (intro w hSw; (try dsimp only at hSw); go_simp; try with_reducible rfl))
        | (refine wpAnyH_take (i := 10) (oi := ⟨some 111, _, _, _, _, _⟩) (v := undef) rfl (by kernel_rfl) (by kernel_rfl) (by kernel_rfl) (fun _ _ _ h => h) (Or.inr ⟨by rfl, rfl⟩) hHeld ?rra10)
      try simp only [Act.put, List.setIfInBounds_toArray, List.set_cons_zero, List.set_cons_succ]
      first
        | (refine wpAnyH_take (i := 11) (oi := ⟨some 112, _, _, _, _, _⟩) (v := ?va11) rfl (by kernel_rfl) (by kernel_rfl) (by kernel_rfl) (fun _ _ _ h => h) (Or.inl ⟨by rfl, ?hya11⟩) hHeld ?rra11
           case hya11 => (intro w hSw; (try dsimp only at hSw); go_simp; try with_reducible rfl))
        | (refine wpAnyH_take (i := 11) (oi := ⟨some 112, _, _, _, _, _⟩) (v := undef) rfl (by kernel_rfl) (by kernel_rfl) (by kernel_rfl) (fun _ _ _ h => h) (Or.inr ⟨by rfl, rfl⟩) hHeld ?rra11)
      try simp only [Act.put, List.setIfInBounds_toArray, List.set_cons_zero, List.set_cons_succ]
      first
        | (refine wpAnyH_take (i := 12) (oi := ⟨some 113, _, _, _, _, _⟩) (v := ?va12) rfl (by kernel_rfl) (by kernel_rfl) (by kernel_rfl) (fun _ _ _ h => h) (Or.inl ⟨by rfl, ?hya12⟩) hHeld ?rra12
           case hya12 => (intro w hSw; (try dsimp only at hSw); go_simp; try with_reducible rfl))
        | (refine wpAnyH_take (i := 12) (oi := ⟨some 113, _, _, _, _, _⟩) (v := undef) rfl (by kernel_rfl) (by kernel_rfl) (by kernel_rfl) (fun _ _ _ h => h) (Or.inr ⟨by rfl, rfl⟩) hHeld ?rra12)
      try simp only [Act.put, List.setIfInBounds_toArray, List.set_cons_zero, List.set_cons_succ]
      first
        | (refine wpAnyH_take (i := 13) (oi := ⟨some 114, _, _, _, _, _⟩) (v := ?va13) rfl (by kernel_rfl) (by kernel_rfl) (by kernel_rfl) (fun _ _ _ h => h) (Or.inl ⟨by rfl, ?hya13⟩) hHeld ?rra13
           case hya13 => (intro w hSw; (try dsimp only at hSw); go_simp; try with_reducible rfl))
        | (refine wpAnyH_take (i := 13) (oi := ⟨some 114, _, _, _, _, _⟩) (v := undef) rfl (by kernel_rfl) (by kernel_rfl) (by kernel_rfl) (fun _ _ _ h => h) (Or.inr ⟨by rfl, rfl⟩) hHeld ?rra13)
      try simp only [Act.put, List.setIfInBounds_toArray, List.set_cons_zero, List.set_cons_succ]
      first
        | (refine wpAnyH_take (i := 14) (oi := ⟨some 115, _, _, _, _, _⟩) (v := ?va14) rfl (by kernel_rfl) (by kernel_rfl) (by kernel_rfl) (fun _ _ _ h => h) (Or.inl ⟨by rfl, ?hya14⟩) hHeld ?rra14
           case hya14 => (intro w hSw; (try dsimp only at hSw); go_simp; try with_reducible rfl))
        | (refine wpAnyH_take (i := 14) (oi := ⟨some 115, _, _, _, _, _⟩) (v := undef) rfl (by kernel_rfl) (by kernel_rfl) (by kernel_rfl) (fun _ _ _ h => h) (Or.inr ⟨by rfl, rfl⟩) hHeld ?rra14)
      try simp only [Act.put, List.setIfInBounds_toArray, List.set_cons_zero, List.set_cons_succ]
      first
        | (refine wpAnyH_take (i := 15) (oi := ⟨some 116, _, _, _, _, _⟩) (v := ?va15) rfl (by kernel_rfl) (by kernel_rfl) (by kernel_rfl) (fun _ _ _ h => h) (Or.inl ⟨by rfl, ?hya15⟩) hHeld ?rra15
           case hya15 => (intro w hSw; (try dsimp only at hSw); go_simp; try with_reducible rfl))
        | (refine wpAnyH_take (i := 15) (oi := ⟨some 116, _, _, _, _, _⟩) (v := undef) rfl (by kernel_rfl) (by kernel_rfl) (by kernel_rfl) (fun _ _ _ h => h) (Or.inr ⟨by rfl, rfl⟩) hHeld ?rra15)
      try simp only [Act.put, List.setIfInBounds_toArray, List.set_cons_zero, List.set_cons_succ]
      first
        | (refine wpAnyH_take (i := 16) (oi := ⟨some 117, _, _, _, _, _⟩) (v := ?va16) rfl (by kernel_rfl) (by kernel_rfl) (by kernel_rfl) (fun _ _ _ h => h) (Or.inl ⟨by rfl, ?hya16⟩) hHeld ?rra16
           case hya16 => (intro w hSw; (try dsimp only at hSw); go_simp; try with_reducible rfl))
        | (refine wpAnyH_take (i := 16) (oi := ⟨some 117, _, _, _, _, _⟩) (v := undef) rfl (by kernel_rfl) (by kernel_rfl) (by kernel_rfl) (fun _ _ _ h => h) (Or.inr ⟨by rfl, rfl⟩) hHeld ?rra16)
      try simp only [Act.put, List.setIfInBounds_toArray, List.set_cons_zero, List.set_cons_succ]
      first
        | (refine wpAnyH_take (i := 17) (oi := ⟨some 118, _, _, _, _, _⟩) (v := ?va17) rfl (by kernel_rfl) (by kernel_rfl) (by kernel_rfl) (fun _ _ _ h => h) (Or.inl ⟨by rfl, ?hya17⟩) hHeld ?rra17
           case hya17 => (intro w hSw; (try dsimp only at hSw); go_simp; try with_reducible rfl))
        | (refine wpAnyH_take (i := 17) (oi := ⟨some 118, _, _, _, _, _⟩) (v := undef) rfl (by kernel_rfl) (by kernel_rfl) (by kernel_rfl) (fun _ _ _ h => h) (Or.inr ⟨by rfl, rfl⟩) hHeld ?rra17)
      try simp only [Act.put, List.setIfInBounds_toArray, List.set_cons_zero, List.set_cons_succ]
      first
        | (refine wpAnyH_take (i := 18) (oi := ⟨some 119, _, _, _, _, _⟩) (v := ?va18) rfl (by kernel_rfl) (by kernel_rfl) (by kernel_rfl) (fun _ _ _ h => h) (Or.inl ⟨by rfl, ?hya18⟩) hHeld ?rra18
           case hya18 => (intro w hSw; (try dsimp only at hSw); go_simp; try with_reducible rfl))
        | (refine wpAnyH_take (i := 18) (oi := ⟨some 119, _, _, _, _, _⟩) (v := undef) rfl (by kernel_rfl) (by kernel_rfl) (by kernel_rfl) (fun _ _ _ h => h) (Or.inr ⟨by rfl, rfl⟩) hHeld ?rra18)
      try simp only [Act.put, List.setIfInBounds_toArray, List.set_cons_zero, List.set_cons_succ]
      first
        | (refine wpAnyH_take (i := 19) (oi := ⟨some 120, _, _, _, _, _⟩) (v := ?va19) rfl (by kernel_rfl) (by kernel_rfl) (by kernel_rfl) (fun _ _ _ h => h) (Or.inl ⟨by rfl, ?hya19⟩) hHeld ?rra19
           case hya19 => (intro w hSw; (try dsimp only at hSw); go_simp; try with_reducible rfl))
        | (refine wpAnyH_take (i := 19) (oi := ⟨some 120, _, _, _, _, _⟩) (v := undef) rfl (by kernel_rfl) (by kernel_rfl) (by kernel_rfl) (fun _ _ _ h => h) (Or.inr ⟨by rfl, rfl⟩) hHeld ?rra19)
      try simp only [Act.put, List.setIfInBounds_toArray, List.set_cons_zero, List.set_cons_succ]
      first
        | (refine wpAnyH_take (i := 20) (oi := ⟨some 121, _, _, _, _, _⟩) (v := ?va20) rfl (by kernel_rfl) (by kernel_rfl) (by kernel_rfl) (fun _ _ _ h => h) (Or.inl ⟨by rfl, ?hya20⟩) hHeld ?rra20
           case hya20 => (intro w hSw; (try dsimp only at hSw); go_simp; try with_reducible rfl))
        | (refine wpAnyH_take (i := 20) (oi := ⟨some 121, _, _, _, _, _⟩) (v := undef) rfl (by kernel_rfl) (by kernel_rfl) (by kernel_rfl) (fun _ _ _ h => h) (Or.inr ⟨by rfl, rfl⟩) hHeld ?rra20)
      try simp only [Act.put, List.setIfInBounds_toArray, List.set_cons_zero, List.set_cons_succ]
      first
        | (refine wpAnyH_take (i := 21) (oi := ⟨some 122, _, _, _, _, _⟩) (v := ?va21) rfl (by kernel_rfl) (by kernel_rfl) (by kernel_rfl) (fun _ _ _ h => h) (Or.inl ⟨by rfl, ?hya21⟩) hHeld ?rra21
           case hya21 => (intro w hSw; (try dsimp only at hSw); go_simp; try with_reducible rfl))
        | (refine wpAnyH_take (i := 21) (oi := ⟨some 122, _, _, _, _, _⟩) (v := undef) rfl (by kernel_rfl) (by kernel_rfl) (by kernel_rfl) (fun _ _ _ h => h) (Or.inr ⟨by rfl, rfl⟩) hHeld ?rra21)
      try simp only [Act.put, List.setIfInBounds_toArray, List.set_cons_zero, List.set_cons_succ]
      first
        | (refine wpAnyH_take (i := 22) (oi := ⟨some 123, _, _, _, _, _⟩) (v := ?va22) rfl (by kernel_rfl) (by kernel_rfl) (by kernel_rfl) (fun _ _ _ h => h) (Or.inl ⟨by rfl, ?hya22⟩) hHeld ?rra22
           case hya22 => (intro w hSw; (try dsimp only at hSw); go_simp; try with_reducible rfl))
        | (refine wpAnyH_take (i := 22) (oi := ⟨some 123, _, _, _, _, _⟩) (v := undef) rfl (by kernel_rfl) (by kernel_rfl) (by kernel_rfl) (fun _ _ _ h => h) (Or.inr ⟨by rfl, rfl⟩) hHeld ?rra22)
      try simp only [Act.put, List.setIfInBounds_toArray, List.set_cons_zero, List.set_cons_succ]
      first
        | (refine wpAnyH_take (i := 23) (oi := ⟨some 124, _, _, _, _, _⟩) (v := ?va23) rfl (by kernel_rfl) (by kernel_rfl) (by kernel_rfl) (fun _ _ _ h => h) (Or.inl ⟨by rfl, ?hya23⟩) hHeld ?rra23
           case hya23 => (intro w hSw; (try dsimp only at hSw); go_simp; try with_reducible rfl))
        | (refine wpAnyH_take (i := 23) (oi := ⟨some 124, _, _, _, _, _⟩) (v := undef) rfl (by kernel_rfl) (by kernel_rfl) (by kernel_rfl) (fun _ _ _ h => h) (Or.inr ⟨by rfl, rfl⟩) hHeld ?rra23)
      try simp only [Act.put, List.setIfInBounds_toArray, List.set_cons_zero, List.set_cons_succ]
      first
        | (refine wpAnyH_take (i := 24) (oi := ⟨some 125, _, _, _, _, _⟩) (v := ?va24) rfl (by kernel_rfl) (by kernel_rfl) (by kernel_rfl) (fun _ _ _ h => h) (Or.inl ⟨by rfl, ?hya24⟩) hHeld ?rra24
           case hya24 => (intro w hSw; (try dsimp only at hSw); go_simp; try with_reducible rfl))
        | (refine wpAnyH_take (i := 24) (oi := ⟨some 125, _, _, _, _, _⟩) (v := undef) rfl (by kernel_rfl) (by kernel_rfl) (by kernel_rfl) (fun _ _ _ h => h) (Or.inr ⟨by rfl, rfl⟩) hHeld ?rra24)
      try simp only [Act.put, List.setIfInBounds_toArray, List.set_cons_zero, List.set_cons_succ]
      first
        | (refine wpAnyH_take (i := 25) (oi := ⟨some 126, _, _, _, _, _⟩) (v := ?va25) rfl (by kernel_rfl) (by kernel_rfl) (by kernel_rfl) (fun _ _ _ h => h) (Or.inl ⟨by rfl, ?hya25⟩) hHeld ?rra25
           case hya25 => (intro w hSw; (try dsimp only at hSw); go_simp; try with_reducible rfl))
        | (refine wpAnyH_take (i := 25) (oi := ⟨some 126, _, _, _, _, _⟩) (v := undef) rfl (by kernel_rfl) (by kernel_rfl) (by kernel_rfl) (fun _ _ _ h => h) (Or.inr ⟨by rfl, rfl⟩) hHeld ?rra25)
      try simp only [Act.put, List.setIfInBounds_toArray, List.set_cons_zero, List.set_cons_succ]
      first
        | (refine wpAnyH_take (i := 26) (oi := ⟨some 127, _, _, _, _, _⟩) (v := ?va26) rfl (by kernel_rfl) (by kernel_rfl) (by kernel_rfl) (fun _ _ _ h => h) (Or.inl ⟨by rfl, ?hya26⟩) hHeld ?rra26
           case hya26 => (intro w hSw; (try dsimp only at hSw); go_simp; try with_reducible rfl))
        | (refine wpAnyH_take (i := 26) (oi := ⟨some 127, _, _, _, _, _⟩) (v := undef) rfl (by kernel_rfl) (by kernel_rfl) (by kernel_rfl) (fun _ _ _ h => h) (Or.inr ⟨by rfl, rfl⟩) hHeld ?rra26)
      try simp only [Act.put, List.setIfInBounds_toArray, List.set_cons_zero, List.set_cons_succ]
      first
        | (refine wpAnyH_take (i := 27) (oi := ⟨some 128, _, _, _, _, _⟩) (v := ?va27) rfl (by kernel_rfl) (by kernel_rfl) (by kernel_rfl) (fun _ _ _ h => h) (Or.inl ⟨by rfl, ?hya27⟩) hHeld ?rra27
           case hya27 => (intro w hSw; (try dsimp only at hSw); go_simp; try with_reducible rfl))
        | (refine wpAnyH_take (i := 27) (oi := ⟨some 128, _, _, _, _, _⟩) (v := undef) rfl (by kernel_rfl) (by kernel_rfl) (by kernel_rfl) (fun _ _ _ h => h) (Or.inr ⟨by rfl, rfl⟩) hHeld ?rra27)
      try simp only [Act.put, List.setIfInBounds_toArray, List.set_cons_zero, List.set_cons_succ]
      first
        | (refine wpAnyH_take (i := 28) (oi := ⟨some 129, _, _, _, _, _⟩) (v := ?va28) rfl (by kernel_rfl) (by kernel_rfl) (by kernel_rfl) (fun _ _ _ h => h) (Or.inl ⟨by rfl, ?hya28⟩) hHeld ?rra28
           case hya28 => (intro w hSw; (try dsimp only at hSw); go_simp; try with_reducible rfl))
        | (refine wpAnyH_take (i := 28) (oi := ⟨some 129, _, _, _, _, _⟩) (v := undef) rfl (by kernel_rfl) (by kernel_rfl) (by kernel_rfl) (fun _ _ _ h => h) (Or.inr ⟨by rfl, rfl⟩) hHeld ?rra28)
      try simp only [Act.put, List.setIfInBounds_toArray, List.set_cons_zero, List.set_cons_succ]
      first
        | (refine wpAnyH_take (i := 29) (oi := ⟨some 130, _, _, _, _, _⟩) (v := ?va29) rfl (by kernel_rfl) (by kernel_rfl) (by kernel_rfl) (fun _ _ _ h => h) (Or.inl ⟨by rfl, ?hya29⟩) hHeld ?rra29
           case hya29 => (intro w hSw; (try dsimp only at hSw); go_simp; try with_reducible rfl))
        | (refine wpAnyH_take (i := 29) (oi := ⟨some 130, _, _, _, _, _⟩) (v := undef) rfl (by kernel_rfl) (by kernel_rfl) (by kernel_rfl) (fun _ _ _ h => h) (Or.inr ⟨by rfl, rfl⟩) hHeld ?rra29)
      try simp only [Act.put, List.setIfInBounds_toArray, List.set_cons_zero, List.set_cons_succ]
      first
        | (refine wpAnyH_take (i := 30) (oi := ⟨some 131, _, _, _, _, _⟩) (v := ?va30) rfl (by kernel_rfl) (by kernel_rfl) (by kernel_rfl) (fun _ _ _ h => h) (Or.inl ⟨by rfl, ?hya30⟩) hHeld ?rra30
           case hya30 => (intro w hSw; (try dsimp only at hSw); go_simp; try with_reducible rfl))
        | (refine wpAnyH_take (i := 30) (oi := ⟨some 131, _, _, _, _, _⟩) (v := undef) rfl (by kernel_rfl) (by kernel_rfl) (by kernel_rfl) (fun _ _ _ h => h) (Or.inr ⟨by rfl, rfl⟩) hHeld ?rra30)
      try simp only [Act.put, List.setIfInBounds_toArray, List.set_cons_zero, List.set_cons_succ]
      first
        | (refine wpAnyH_take (i := 31) (oi := ⟨some 4, _, _, _, _, _⟩) (v := ?va31) rfl (by kernel_rfl) (by kernel_rfl) (by kernel_rfl) (fun _ _ _ h => h) (Or.inl ⟨by rfl, ?hya31⟩) hHeld ?rra31
           case hya31 => (intro w hSw; (try dsimp only at hSw); go_simp; try with_reducible rfl))
        | (refine wpAnyH_take (i := 31) (oi := ⟨some 4, _, _, _, _, _⟩) (v := undef) rfl (by kernel_rfl) (by kernel_rfl) (by kernel_rfl) (fun _ _ _ h => h) (Or.inr ⟨by rfl, rfl⟩) hHeld ?rra31)
      try simp only [Act.put, List.setIfInBounds_toArray, List.set_cons_zero, List.set_cons_succ]
      refine wpAnyH_done (by kernel_rfl) ?_ _
      refine NoPanic.normal ?_
      go_wp2
      go_ret
      exact ⟨rfl, HB9.out.drew⟩
    · have k0 : (0 : Int) ≤ (SP.size : Int) := by omega
      have k1 : (28 : Int) ≤ (SP.size : Int) := by omega
      have k2 : (28 : Int) < (SP.size : Int) := by omega
      have hX' : SP.extract 0 28 = X := by rw [← HX.out]; congr 1; omega
      clear hl hzp
      go_wp2
      refine wp_region_noPanic ?_
      refine wp_region_held_drew (S := fun w' => w'.cell? ⟨w2.heap.size, 0, none⟩ = some (.int .i64 fr) ∧ w'.cell? ⟨w2.heap.size, 1, none⟩ = some (.int .i64 dst) ∧ w'.cell? ⟨w2.heap.size, 2, none⟩ = some (.int .i64 pr) ∧ w'.cell? ⟨w2.heap.size, 3, none⟩ = some (.int .i64 tt) ∧ w'.cell? ⟨w2.heap.size, 4, none⟩ = some (.int .i64 id) ∧ w'.cell? ⟨w2.heap.size, 5, none⟩ = some (.bool df) ∧ w'.cell? ⟨w2.heap.size, 6, none⟩ = some (.bool mf) ∧ w'.cell? ⟨w2.heap.size, 7, none⟩ = some (.int .i64 off) ∧ w'.cell? ⟨w2.heap.size, 8, none⟩ = some (.string ps) ∧ w'.cell? ⟨w4.heap.size, 3, none⟩ = some (.string X) ∧ w'.cell? ⟨w5.heap.size, 0, none⟩ = some (.int .i64 fr) ∧ w'.cell? ⟨w5.heap.size, 1, none⟩ = some (.int .i64 dst) ∧ w'.cell? ⟨w5.heap.size, 2, none⟩ = some (.int .i64 pr) ∧ w'.cell? ⟨w5.heap.size, 3, none⟩ = some (.int .i64 tt) ∧ w'.cell? ⟨w5.heap.size, 4, none⟩ = some (.int .i64 id) ∧ w'.cell? ⟨w5.heap.size, 5, none⟩ = some (.bool df) ∧ w'.cell? ⟨w5.heap.size, 6, none⟩ = some (.bool mf) ∧ w'.cell? ⟨w5.heap.size, 7, none⟩ = some (.int .i64 off) ∧ w'.cell? ⟨w5.heap.size, 8, none⟩ = some (.string ps)) (by kernel_rfl) (⟨cc0, cc1, cc2, cc3, cc4, cc5, cc6, cc7, cc8, yy3, zz0, zz1, zz2, zz3, zz4, zz5, zz6, zz7, zz8⟩) (fun hHeld => ?_)
      first
        | (refine wpAnyH_take (i := 0) (oi := ⟨some 101, _, _, _, _, _⟩) (v := ?vb0) rfl (by kernel_rfl) (by kernel_rfl) (by kernel_rfl) (fun _ _ _ h => h) (Or.inl ⟨by rfl, ?hyb0⟩) hHeld ?rrb0
           case hyb0 => (intro w hSw; (try dsimp only at hSw); go_simp; try with_reducible rfl))
        | (refine wpAnyH_take (i := 0) (oi := ⟨some 101, _, _, _, _, _⟩) (v := undef) rfl (by kernel_rfl) (by kernel_rfl) (by kernel_rfl) (fun _ _ _ h => h) (Or.inr ⟨by rfl, rfl⟩) hHeld ?rrb0)
      try simp only [Act.put, List.setIfInBounds_toArray, List.set_cons_zero, List.set_cons_succ]
      first
        | (refine wpAnyH_take (i := 1) (oi := ⟨some 102, _, _, _, _, _⟩) (v := ?vb1) rfl (by kernel_rfl) (by kernel_rfl) (by kernel_rfl) (fun _ _ _ h => h) (Or.inl ⟨by rfl, ?hyb1⟩) hHeld ?rrb1
           case hyb1 => (intro w hSw; (try dsimp only at hSw); go_simp; try with_reducible rfl))
        | (refine wpAnyH_take (i := 1) (oi := ⟨some 102, _, _, _, _, _⟩) (v := undef) rfl (by kernel_rfl) (by kernel_rfl) (by kernel_rfl) (fun _ _ _ h => h) (Or.inr ⟨by rfl, rfl⟩) hHeld ?rrb1)
      try simp only [Act.put, List.setIfInBounds_toArray, List.set_cons_zero, List.set_cons_succ]
      first
        | (refine wpAnyH_take (i := 2) (oi := ⟨some 103, _, _, _, _, _⟩) (v := ?vb2) rfl (by kernel_rfl) (by kernel_rfl) (by kernel_rfl) (fun _ _ _ h => h) (Or.inl ⟨by rfl, ?hyb2⟩) hHeld ?rrb2
           case hyb2 => (intro w hSw; (try dsimp only at hSw); go_simp; try with_reducible rfl))
        | (refine wpAnyH_take (i := 2) (oi := ⟨some 103, _, _, _, _, _⟩) (v := undef) rfl (by kernel_rfl) (by kernel_rfl) (by kernel_rfl) (fun _ _ _ h => h) (Or.inr ⟨by rfl, rfl⟩) hHeld ?rrb2)
      try simp only [Act.put, List.setIfInBounds_toArray, List.set_cons_zero, List.set_cons_succ]
      first
        | (refine wpAnyH_take (i := 3) (oi := ⟨some 104, _, _, _, _, _⟩) (v := ?vb3) rfl (by kernel_rfl) (by kernel_rfl) (by kernel_rfl) (fun _ _ _ h => h) (Or.inl ⟨by rfl, ?hyb3⟩) hHeld ?rrb3
           case hyb3 => (intro w hSw; (try dsimp only at hSw); go_simp; try with_reducible rfl))
        | (refine wpAnyH_take (i := 3) (oi := ⟨some 104, _, _, _, _, _⟩) (v := undef) rfl (by kernel_rfl) (by kernel_rfl) (by kernel_rfl) (fun _ _ _ h => h) (Or.inr ⟨by rfl, rfl⟩) hHeld ?rrb3)
      try simp only [Act.put, List.setIfInBounds_toArray, List.set_cons_zero, List.set_cons_succ]
      first
        | (refine wpAnyH_take (i := 4) (oi := ⟨some 105, _, _, _, _, _⟩) (v := ?vb4) rfl (by kernel_rfl) (by kernel_rfl) (by kernel_rfl) (fun _ _ _ h => h) (Or.inl ⟨by rfl, ?hyb4⟩) hHeld ?rrb4
           case hyb4 => (intro w hSw; (try dsimp only at hSw); go_simp; try with_reducible rfl))
        | (refine wpAnyH_take (i := 4) (oi := ⟨some 105, _, _, _, _, _⟩) (v := undef) rfl (by kernel_rfl) (by kernel_rfl) (by kernel_rfl) (fun _ _ _ h => h) (Or.inr ⟨by rfl, rfl⟩) hHeld ?rrb4)
      try simp only [Act.put, List.setIfInBounds_toArray, List.set_cons_zero, List.set_cons_succ]
      first
        | (refine wpAnyH_take (i := 5) (oi := ⟨some 106, _, _, _, _, _⟩) (v := ?vb5) rfl (by kernel_rfl) (by kernel_rfl) (by kernel_rfl) (fun _ _ _ h => h) (Or.inl ⟨by rfl, ?hyb5⟩) hHeld ?rrb5
           case hyb5 => (intro w hSw; (try dsimp only at hSw); go_simp; try with_reducible rfl))
        | (refine wpAnyH_take (i := 5) (oi := ⟨some 106, _, _, _, _, _⟩) (v := undef) rfl (by kernel_rfl) (by kernel_rfl) (by kernel_rfl) (fun _ _ _ h => h) (Or.inr ⟨by rfl, rfl⟩) hHeld ?rrb5)
      try simp only [Act.put, List.setIfInBounds_toArray, List.set_cons_zero, List.set_cons_succ]
      first
        | (refine wpAnyH_take (i := 6) (oi := ⟨some 107, _, _, _, _, _⟩) (v := ?vb6) rfl (by kernel_rfl) (by kernel_rfl) (by kernel_rfl) (fun _ _ _ h => h) (Or.inl ⟨by rfl, ?hyb6⟩) hHeld ?rrb6
           case hyb6 => (intro w hSw; (try dsimp only at hSw); go_simp; try with_reducible rfl))
        | (refine wpAnyH_take (i := 6) (oi := ⟨some 107, _, _, _, _, _⟩) (v := undef) rfl (by kernel_rfl) (by kernel_rfl) (by kernel_rfl) (fun _ _ _ h => h) (Or.inr ⟨by rfl, rfl⟩) hHeld ?rrb6)
      try simp only [Act.put, List.setIfInBounds_toArray, List.set_cons_zero, List.set_cons_succ]
      first
        | (refine wpAnyH_take (i := 7) (oi := ⟨some 108, _, _, _, _, _⟩) (v := ?vb7) rfl (by kernel_rfl) (by kernel_rfl) (by kernel_rfl) (fun _ _ _ h => h) (Or.inl ⟨by rfl, ?hyb7⟩) hHeld ?rrb7
           case hyb7 => (intro w hSw; (try dsimp only at hSw); go_simp; try with_reducible rfl))
        | (refine wpAnyH_take (i := 7) (oi := ⟨some 108, _, _, _, _, _⟩) (v := undef) rfl (by kernel_rfl) (by kernel_rfl) (by kernel_rfl) (fun _ _ _ h => h) (Or.inr ⟨by rfl, rfl⟩) hHeld ?rrb7)
      try simp only [Act.put, List.setIfInBounds_toArray, List.set_cons_zero, List.set_cons_succ]
      first
        | (refine wpAnyH_take (i := 8) (oi := ⟨some 109, _, _, _, _, _⟩) (v := ?vb8) rfl (by kernel_rfl) (by kernel_rfl) (by kernel_rfl) (fun _ _ _ h => h) (Or.inl ⟨by rfl, ?hyb8⟩) hHeld ?rrb8
           case hyb8 => (intro w hSw; (try dsimp only at hSw); go_simp; try with_reducible rfl))
        | (refine wpAnyH_take (i := 8) (oi := ⟨some 109, _, _, _, _, _⟩) (v := undef) rfl (by kernel_rfl) (by kernel_rfl) (by kernel_rfl) (fun _ _ _ h => h) (Or.inr ⟨by rfl, rfl⟩) hHeld ?rrb8)
      try simp only [Act.put, List.setIfInBounds_toArray, List.set_cons_zero, List.set_cons_succ]
      first
        | (refine wpAnyH_take (i := 9) (oi := ⟨some 110, _, _, _, _, _⟩) (v := ?vb9) rfl (by kernel_rfl) (by kernel_rfl) (by kernel_rfl) (fun _ _ _ h => h) (Or.inl ⟨by rfl, ?hyb9⟩) hHeld ?rrb9
           case hyb9 => (intro w hSw; (try dsimp only at hSw); go_simp; try with_reducible rfl))
        | (refine wpAnyH_take (i := 9) (oi := ⟨some 110, _, _, _, _, _⟩) (v := undef) rfl (by kernel_rfl) (by kernel_rfl) (by kernel_rfl) (fun _ _ _ h => h) (Or.inr ⟨by rfl, rfl⟩) hHeld ?rrb9)
      try simp only [Act.put, List.setIfInBounds_toArray, List.set_cons_zero, List.set_cons_succ]
      first
        | (refine wpAnyH_take (i := 10) (oi := ⟨some 111, _, _, _, _, _⟩) (v := ?vb10) rfl (by kernel_rfl) (by kernel_rfl) (by kernel_rfl) (fun _ _ _ h => h) (Or.inl ⟨by rfl, ?hyb10⟩) hHeld ?rrb10
           case hyb10 => (intro w hSw; (try dsimp only at hSw); go_simp; try with_reducible rfl))
        | (refine wpAnyH_take (i := 10) (oi := ⟨some 111, _, _, _, _, _⟩) (v := undef) rfl (by kernel_rfl) (by kernel_rfl) (by kernel_rfl) (fun _ _ _ h => h) (Or.inr ⟨by rfl, rfl⟩) hHeld ?rrb10)
      try simp only [Act.put, List.setIfInBounds_toArray, List.set_cons_zero, List.set_cons_succ]
      first
        | (refine wpAnyH_take (i := 11) (oi := ⟨some 112, _, _, _, _, _⟩) (v := ?vb11) rfl (by kernel_rfl) (by kernel_rfl) (by kernel_rfl) (fun _ _ _ h => h) (Or.inl ⟨by rfl, ?hyb11⟩) hHeld ?rrb11
           case hyb11 => (intro w hSw; (try dsimp only at hSw); go_simp; try with_reducible rfl))
        | (refine wpAnyH_take (i := 11) (oi := ⟨some 112, _, _, _, _, _⟩) (v := undef) rfl (by kernel_rfl) (by kernel_rfl) (by kernel_rfl) (fun _ _ _ h => h) (Or.inr ⟨by rfl, rfl⟩) hHeld ?rrb11)
      try simp only [Act.put, List.setIfInBounds_toArray, List.set_cons_zero, List.set_cons_succ]
      first
        | (refine wpAnyH_take (i := 12) (oi := ⟨some 113, _, _, _, _, _⟩) (v := ?vb12) rfl (by kernel_rfl) (by kernel_rfl) (by kernel_rfl) (fun _ _ _ h => h) (Or.inl ⟨by rfl, ?hyb12⟩) hHeld ?rrb12
           case hyb12 => (intro w hSw; (try dsimp only at hSw); go_simp; try with_reducible rfl))
        | (refine wpAnyH_take (i := 12) (oi := ⟨some 113, _, _, _, _, _⟩) (v := undef) rfl (by kernel_rfl) (by kernel_rfl) (by kernel_rfl) (fun _ _ _ h => h) (Or.inr ⟨by rfl, rfl⟩) hHeld ?rrb12)
      try simp only [Act.put, List.setIfInBounds_toArray, List.set_cons_zero, List.set_cons_succ]
      first
        | (refine wpAnyH_take (i := 13) (oi := ⟨some 114, _, _, _, _, _⟩) (v := ?vb13) rfl (by kernel_rfl) (by kernel_rfl) (by kernel_rfl) (fun _ _ _ h => h) (Or.inl ⟨by rfl, ?hyb13⟩) hHeld ?rrb13
           case hyb13 => (intro w hSw; (try dsimp only at hSw); go_simp; try with_reducible rfl))
        | (refine wpAnyH_take (i := 13) (oi := ⟨some 114, _, _, _, _, _⟩) (v := undef) rfl (by kernel_rfl) (by kernel_rfl) (by kernel_rfl) (fun _ _ _ h => h) (Or.inr ⟨by rfl, rfl⟩) hHeld ?rrb13)
      try simp only [Act.put, List.setIfInBounds_toArray, List.set_cons_zero, List.set_cons_succ]
      first
        | (refine wpAnyH_take (i := 14) (oi := ⟨some 115, _, _, _, _, _⟩) (v := ?vb14) rfl (by kernel_rfl) (by kernel_rfl) (by kernel_rfl) (fun _ _ _ h => h) (Or.inl ⟨by rfl, ?hyb14⟩) hHeld ?rrb14
           case hyb14 => (intro w hSw; (try dsimp only at hSw); go_simp; try with_reducible rfl))
        | (refine wpAnyH_take (i := 14) (oi := ⟨some 115, _, _, _, _, _⟩) (v := undef) rfl (by kernel_rfl) (by kernel_rfl) (by kernel_rfl) (fun _ _ _ h => h) (Or.inr ⟨by rfl, rfl⟩) hHeld ?rrb14)
      try simp only [Act.put, List.setIfInBounds_toArray, List.set_cons_zero, List.set_cons_succ]
      first
        | (refine wpAnyH_take (i := 15) (oi := ⟨some 116, _, _, _, _, _⟩) (v := ?vb15) rfl (by kernel_rfl) (by kernel_rfl) (by kernel_rfl) (fun _ _ _ h => h) (Or.inl ⟨by rfl, ?hyb15⟩) hHeld ?rrb15
           case hyb15 => (intro w hSw; (try dsimp only at hSw); go_simp; try with_reducible rfl))
        | (refine wpAnyH_take (i := 15) (oi := ⟨some 116, _, _, _, _, _⟩) (v := undef) rfl (by kernel_rfl) (by kernel_rfl) (by kernel_rfl) (fun _ _ _ h => h) (Or.inr ⟨by rfl, rfl⟩) hHeld ?rrb15)
      try simp only [Act.put, List.setIfInBounds_toArray, List.set_cons_zero, List.set_cons_succ]
      first
        | (refine wpAnyH_take (i := 16) (oi := ⟨some 117, _, _, _, _, _⟩) (v := ?vb16) rfl (by kernel_rfl) (by kernel_rfl) (by kernel_rfl) (fun _ _ _ h => h) (Or.inl ⟨by rfl, ?hyb16⟩) hHeld ?rrb16
           case hyb16 => (intro w hSw; (try dsimp only at hSw); go_simp; try with_reducible rfl))
        | (refine wpAnyH_take (i := 16) (oi := ⟨some 117, _, _, _, _, _⟩) (v := undef) rfl (by kernel_rfl) (by kernel_rfl) (by kernel_rfl) (fun _ _ _ h => h) (Or.inr ⟨by rfl, rfl⟩) hHeld ?rrb16)
      try simp only [Act.put, List.setIfInBounds_toArray, List.set_cons_zero, List.set_cons_succ]
      first
        | (refine wpAnyH_take (i := 17) (oi := ⟨some 118, _, _, _, _, _⟩) (v := ?vb17) rfl (by kernel_rfl) (by kernel_rfl) (by kernel_rfl) (fun _ _ _ h => h) (Or.inl ⟨by rfl, ?hyb17⟩) hHeld ?rrb17
           case hyb17 => (intro w hSw; (try dsimp only at hSw); go_simp; try with_reducible rfl))
        | (refine wpAnyH_take (i := 17) (oi := ⟨some 118, _, _, _, _, _⟩) (v := undef) rfl (by kernel_rfl) (by kernel_rfl) (by kernel_rfl) (fun _ _ _ h => h) (Or.inr ⟨by rfl, rfl⟩) hHeld ?rrb17)
      try simp only [Act.put, List.setIfInBounds_toArray, List.set_cons_zero, List.set_cons_succ]
      first
        | (refine wpAnyH_take (i := 18) (oi := ⟨some 119, _, _, _, _, _⟩) (v := ?vb18) rfl (by kernel_rfl) (by kernel_rfl) (by kernel_rfl) (fun _ _ _ h => h) (Or.inl ⟨by rfl, ?hyb18⟩) hHeld ?rrb18
           case hyb18 => (intro w hSw; (try dsimp only at hSw); go_simp; try with_reducible rfl))
        | (refine wpAnyH_take (i := 18) (oi := ⟨some 119, _, _, _, _, _⟩) (v := undef) rfl (by kernel_rfl) (by kernel_rfl) (by kernel_rfl) (fun _ _ _ h => h) (Or.inr ⟨by rfl, rfl⟩) hHeld ?rrb18)
      try simp only [Act.put, List.setIfInBounds_toArray, List.set_cons_zero, List.set_cons_succ]
      first
        | (refine wpAnyH_take (i := 19) (oi := ⟨some 120, _, _, _, _, _⟩) (v := ?vb19) rfl (by kernel_rfl) (by kernel_rfl) (by kernel_rfl) (fun _ _ _ h => h) (Or.inl ⟨by rfl, ?hyb19⟩) hHeld ?rrb19
           case hyb19 => (intro w hSw; (try dsimp only at hSw); go_simp; try with_reducible rfl))
        | (refine wpAnyH_take (i := 19) (oi := ⟨some 120, _, _, _, _, _⟩) (v := undef) rfl (by kernel_rfl) (by kernel_rfl) (by kernel_rfl) (fun _ _ _ h => h) (Or.inr ⟨by rfl, rfl⟩) hHeld ?rrb19)
      try simp only [Act.put, List.setIfInBounds_toArray, List.set_cons_zero, List.set_cons_succ]
      first
        | (refine wpAnyH_take (i := 20) (oi := ⟨some 121, _, _, _, _, _⟩) (v := ?vb20) rfl (by kernel_rfl) (by kernel_rfl) (by kernel_rfl) (fun _ _ _ h => h) (Or.inl ⟨by rfl, ?hyb20⟩) hHeld ?rrb20
           case hyb20 => (intro w hSw; (try dsimp only at hSw); go_simp; try with_reducible rfl))
        | (refine wpAnyH_take (i := 20) (oi := ⟨some 121, _, _, _, _, _⟩) (v := undef) rfl (by kernel_rfl) (by kernel_rfl) (by kernel_rfl) (fun _ _ _ h => h) (Or.inr ⟨by rfl, rfl⟩) hHeld ?rrb20)
      try simp only [Act.put, List.setIfInBounds_toArray, List.set_cons_zero, List.set_cons_succ]
      first
        | (refine wpAnyH_take (i := 21) (oi := ⟨some 122, _, _, _, _, _⟩) (v := ?vb21) rfl (by kernel_rfl) (by kernel_rfl) (by kernel_rfl) (fun _ _ _ h => h) (Or.inl ⟨by rfl, ?hyb21⟩) hHeld ?rrb21
           case hyb21 => (intro w hSw; (try dsimp only at hSw); go_simp; try with_reducible rfl))
        | (refine wpAnyH_take (i := 21) (oi := ⟨some 122, _, _, _, _, _⟩) (v := undef) rfl (by kernel_rfl) (by kernel_rfl) (by kernel_rfl) (fun _ _ _ h => h) (Or.inr ⟨by rfl, rfl⟩) hHeld ?rrb21)
      try simp only [Act.put, List.setIfInBounds_toArray, List.set_cons_zero, List.set_cons_succ]
      first
        | (refine wpAnyH_take (i := 22) (oi := ⟨some 123, _, _, _, _, _⟩) (v := ?vb22) rfl (by kernel_rfl) (by kernel_rfl) (by kernel_rfl) (fun _ _ _ h => h) (Or.inl ⟨by rfl, ?hyb22⟩) hHeld ?rrb22
           case hyb22 => (intro w hSw; (try dsimp only at hSw); go_simp; try with_reducible rfl))
        | (refine wpAnyH_take (i := 22) (oi := ⟨some 123, _, _, _, _, _⟩) (v := undef) rfl (by kernel_rfl) (by kernel_rfl) (by kernel_rfl) (fun _ _ _ h => h) (Or.inr ⟨by rfl, rfl⟩) hHeld ?rrb22)
      try simp only [Act.put, List.setIfInBounds_toArray, List.set_cons_zero, List.set_cons_succ]
      first
        | (refine wpAnyH_take (i := 23) (oi := ⟨some 124, _, _, _, _, _⟩) (v := ?vb23) rfl (by kernel_rfl) (by kernel_rfl) (by kernel_rfl) (fun _ _ _ h => h) (Or.inl ⟨by rfl, ?hyb23⟩) hHeld ?rrb23
           case hyb23 => (intro w hSw; (try dsimp only at hSw); go_simp; try with_reducible rfl))
        | (refine wpAnyH_take (i := 23) (oi := ⟨some 124, _, _, _, _, _⟩) (v := undef) rfl (by kernel_rfl) (by kernel_rfl) (by kernel_rfl) (fun _ _ _ h => h) (Or.inr ⟨by rfl, rfl⟩) hHeld ?rrb23)
      try simp only [Act.put, List.setIfInBounds_toArray, List.set_cons_zero, List.set_cons_succ]
      first
        | (refine wpAnyH_take (i := 24) (oi := ⟨some 125, _, _, _, _, _⟩) (v := ?vb24) rfl (by kernel_rfl) (by kernel_rfl) (by kernel_rfl) (fun _ _ _ h => h) (Or.inl ⟨by rfl, ?hyb24⟩) hHeld ?rrb24
           case hyb24 => (intro w hSw; (try dsimp only at hSw); go_simp; try with_reducible rfl))
        | (refine wpAnyH_take (i := 24) (oi := ⟨some 125, _, _, _, _, _⟩) (v := undef) rfl (by kernel_rfl) (by kernel_rfl) (by kernel_rfl) (fun _ _ _ h => h) (Or.inr ⟨by rfl, rfl⟩) hHeld ?rrb24)
      try simp only [Act.put, List.setIfInBounds_toArray, List.set_cons_zero, List.set_cons_succ]
      first
        | (refine wpAnyH_take (i := 25) (oi := ⟨some 126, _, _, _, _, _⟩) (v := ?vb25) rfl (by kernel_rfl) (by kernel_rfl) (by kernel_rfl) (fun _ _ _ h => h) (Or.inl ⟨by rfl, ?hyb25⟩) hHeld ?rrb25
           case hyb25 => (intro w hSw; (try dsimp only at hSw); go_simp; try with_reducible rfl))
        | (refine wpAnyH_take (i := 25) (oi := ⟨some 126, _, _, _, _, _⟩) (v := undef) rfl (by kernel_rfl) (by kernel_rfl) (by kernel_rfl) (fun _ _ _ h => h) (Or.inr ⟨by rfl, rfl⟩) hHeld ?rrb25)
      try simp only [Act.put, List.setIfInBounds_toArray, List.set_cons_zero, List.set_cons_succ]
      first
        | (refine wpAnyH_take (i := 26) (oi := ⟨some 127, _, _, _, _, _⟩) (v := ?vb26) rfl (by kernel_rfl) (by kernel_rfl) (by kernel_rfl) (fun _ _ _ h => h) (Or.inl ⟨by rfl, ?hyb26⟩) hHeld ?rrb26
           case hyb26 => (intro w hSw; (try dsimp only at hSw); go_simp; try with_reducible rfl))
        | (refine wpAnyH_take (i := 26) (oi := ⟨some 127, _, _, _, _, _⟩) (v := undef) rfl (by kernel_rfl) (by kernel_rfl) (by kernel_rfl) (fun _ _ _ h => h) (Or.inr ⟨by rfl, rfl⟩) hHeld ?rrb26)
      try simp only [Act.put, List.setIfInBounds_toArray, List.set_cons_zero, List.set_cons_succ]
      first
        | (refine wpAnyH_take (i := 27) (oi := ⟨some 128, _, _, _, _, _⟩) (v := ?vb27) rfl (by kernel_rfl) (by kernel_rfl) (by kernel_rfl) (fun _ _ _ h => h) (Or.inl ⟨by rfl, ?hyb27⟩) hHeld ?rrb27
           case hyb27 => (intro w hSw; (try dsimp only at hSw); go_simp; try with_reducible rfl))
        | (refine wpAnyH_take (i := 27) (oi := ⟨some 128, _, _, _, _, _⟩) (v := undef) rfl (by kernel_rfl) (by kernel_rfl) (by kernel_rfl) (fun _ _ _ h => h) (Or.inr ⟨by rfl, rfl⟩) hHeld ?rrb27)
      try simp only [Act.put, List.setIfInBounds_toArray, List.set_cons_zero, List.set_cons_succ]
      first
        | (refine wpAnyH_take (i := 28) (oi := ⟨some 129, _, _, _, _, _⟩) (v := ?vb28) rfl (by kernel_rfl) (by kernel_rfl) (by kernel_rfl) (fun _ _ _ h => h) (Or.inl ⟨by rfl, ?hyb28⟩) hHeld ?rrb28
           case hyb28 => (intro w hSw; (try dsimp only at hSw); go_simp; try with_reducible rfl))
        | (refine wpAnyH_take (i := 28) (oi := ⟨some 129, _, _, _, _, _⟩) (v := undef) rfl (by kernel_rfl) (by kernel_rfl) (by kernel_rfl) (fun _ _ _ h => h) (Or.inr ⟨by rfl, rfl⟩) hHeld ?rrb28)
      try simp only [Act.put, List.setIfInBounds_toArray, List.set_cons_zero, List.set_cons_succ]
      first
        | (refine wpAnyH_take (i := 29) (oi := ⟨some 130, _, _, _, _, _⟩) (v := ?vb29) rfl (by kernel_rfl) (by kernel_rfl) (by kernel_rfl) (fun _ _ _ h => h) (Or.inl ⟨by rfl, ?hyb29⟩) hHeld ?rrb29
           case hyb29 => (intro w hSw; (try dsimp only at hSw); go_simp; try with_reducible rfl))
        | (refine wpAnyH_take (i := 29) (oi := ⟨some 130, _, _, _, _, _⟩) (v := undef) rfl (by kernel_rfl) (by kernel_rfl) (by kernel_rfl) (fun _ _ _ h => h) (Or.inr ⟨by rfl, rfl⟩) hHeld ?rrb29)
      try simp only [Act.put, List.setIfInBounds_toArray, List.set_cons_zero, List.set_cons_succ]
      first
        | (refine wpAnyH_take (i := 30) (oi := ⟨some 131, _, _, _, _, _⟩) (v := ?vb30) rfl (by kernel_rfl) (by kernel_rfl) (by kernel_rfl) (fun _ _ _ h => h) (Or.inl ⟨by rfl, ?hyb30⟩) hHeld ?rrb30
           case hyb30 => (intro w hSw; (try dsimp only at hSw); go_simp; try with_reducible rfl))
        | (refine wpAnyH_take (i := 30) (oi := ⟨some 131, _, _, _, _, _⟩) (v := undef) rfl (by kernel_rfl) (by kernel_rfl) (by kernel_rfl) (fun _ _ _ h => h) (Or.inr ⟨by rfl, rfl⟩) hHeld ?rrb30)
      try simp only [Act.put, List.setIfInBounds_toArray, List.set_cons_zero, List.set_cons_succ]
      first
        | (refine wpAnyH_take (i := 31) (oi := ⟨some 4, _, _, _, _, _⟩) (v := ?vb31) rfl (by kernel_rfl) (by kernel_rfl) (by kernel_rfl) (fun _ _ _ h => h) (Or.inl ⟨by rfl, ?hyb31⟩) hHeld ?rrb31
           case hyb31 => (intro w hSw; (try dsimp only at hSw); go_simp; try with_reducible rfl))
        | (refine wpAnyH_take (i := 31) (oi := ⟨some 4, _, _, _, _, _⟩) (v := undef) rfl (by kernel_rfl) (by kernel_rfl) (by kernel_rfl) (fun _ _ _ h => h) (Or.inr ⟨by rfl, rfl⟩) hHeld ?rrb31)
      try simp only [Act.put, List.setIfInBounds_toArray, List.set_cons_zero, List.set_cons_succ]
      refine wpAnyH_done (by kernel_rfl) ?_ _
      refine NoPanic.normal ?_
      go_wp2
      go_ret
      exact ⟨rfl, HB9.out.drew⟩
  · have hc := neO_not hn1 (by unfold errK; omega) hp ho
    simp only at hc
    have HN := Lib.hid (mnew_no 3 4 0 (by unfold b64i; omega) (⟨fr, dst, pr, tt, id, df, mf, off, ps⟩ : Pk) hpm ho)
    clear ho hp
    go_wp2_with fail
    refine (HN.out _).mono ?_
    rintro e w4 ⟨rfl, hb⟩
    have hB := ((hB3 _ _ _).trans (hb.mono (hB3 _ _ _).size)).alloc ((hB3 _ _ _).trans (hb.mono (hB3 _ _ _).size)).size (mo mz)
    have hP := blk_alloc (blk_below (hP3 _ _ _) hb (blk_lt (hP3 _ _ _))) (mo mz)
    clear hb HN hB3 hP3
    obtain ⟨c0, -⟩ := blk_cell (k := 0) hP rfl
    obtain ⟨c1, -⟩ := blk_cell (k := 1) hP rfl
    obtain ⟨c2, -⟩ := blk_cell (k := 2) hP rfl
    obtain ⟨c3, -⟩ := blk_cell (k := 3) hP rfl
    obtain ⟨c4, -⟩ := blk_cell (k := 4) hP rfl
    obtain ⟨c5, -⟩ := blk_cell (k := 5) hP rfl
    obtain ⟨c6, -⟩ := blk_cell (k := 6) hP rfl
    obtain ⟨c7, -⟩ := blk_cell (k := 7) hP rfl
    obtain ⟨c8, -⟩ := blk_cell (k := 8) hP rfl
    simp only [List.getElem_toArray, List.getElem_cons_zero, List.getElem_cons_succ] at c0 c1 c2 c3 c4 c5 c6 c7 c8
    rcases hc with h | ⟨h, h2⟩ | ⟨h, h2, h3⟩
    · have h7 : (off != 0) = true := by simp [h]
      clear h
      go_wp2
      go_ret
      exact ⟨rfl, hB⟩
    · have h7 : (off != 0) = false := by simp [h]
      have h8 : (dst == 4294967295) = true := by simpa using h2
      clear h h2
      go_wp2
      go_ret
      exact ⟨rfl, hB⟩
    · have h7 : (off != 0) = false := by simp [h]
      have h8 : (dst == 4294967295) = false := by simpa using h2
      have h9 : (pr == 1) = true := by simpa using h3
      clear h h2 h3
      go_wp2
      go_ret
      exact ⟨rfl, hB⟩
end Go.Proofs.YtidjbpglpobigaaDoor

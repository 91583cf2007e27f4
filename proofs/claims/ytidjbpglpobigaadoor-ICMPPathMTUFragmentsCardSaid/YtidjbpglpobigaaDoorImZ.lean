/- The statements' own sane (stagepostlaw08). -/
import Derived.Test.YtidjbpglpobigaaDoorImSc
import Derived.Test.YtidjbpglpobigaaDoorImS
import Derived.Test.YtidjbpglpobigaaDoorImT
namespace Go.Proofs.YtidjbpglpobigaaDoor
open Go.RowKit
set_option linter.unusedVariables false
attribute [local go_sem] Oper.semAt_some

theorem mdecode_enc (m : Ms) (w : World) (ea : Addr) (E : Env w ea) (h : okM m) :
    Calls Tryd.prog 16 #[.string (encM m)] w fun e w' => e = .returned (.tuple #[mv m, .int .i64 0]) ∧ Below w.heap.size w w' := by
  obtain ⟨h1, h2⟩ := dec_encM m h
  have hr := okM_room h
  have := mdecode_ok (encM m) w ea E (by rw [encM_size]; unfold maxLen; omega) h2
  rw [h1] at this
  exact this

theorem Touch.below {S : Nat → Prop} {w w1 : World} {B : Nat} (h : Touch S w w1) (hB : B ≤ w.heap.size) (hs : ∀ k, S k → B ≤ k) : Below B w w1 :=
  ⟨h.os, h.tape, h.output, h.size, fun k hk => h.block k (Nat.lt_of_lt_of_le hk hB) (fun hk2 => absurd (hs k hk2) (by omega))⟩
theorem Touch.kept {S : Nat → Prop} {w w1 : World} {B : Nat} {o : Obj} (h : Touch S w w1) (hb : w.heap[B]? = some o) (hs : ¬ S B) : w1.heap[B]? = some o := (h.block B (blk_lt hb) hs).trans hb
set_option maxRecDepth 100000 in
set_option maxHeartbeats 6400000 in
theorem msane_any (w : World) (ea : Addr) (E : Env w ea) :
    Calls Tryd.prog 13 #[] w fun e w' => e = .returned (.bool true) ∧ Below w.heap.size w w' := by
  obtain ⟨X, hX⟩ : ∃ X, neM 3 4 0 sp0 = X := ⟨_, rfl⟩
  have hX3 := sane_4
  have hX5 := sane_5
  have hX6 := sane_6
  have hX7 := sane_7
  have hX8 := sane_8
  rw [hX] at hX5 hX6 hX7 hX8
  have HX := Lib.hid hX
  obtain ⟨T, hT⟩ : ∃ T, encM X = T := ⟨_, rfl⟩
  have HN := Lib.hid (mnew_yes 3 4 0 (by unfold b64i; omega) sp0 sane_4)
  have HQ := Lib.hid (mquoted_yes X (okM_k hX6.2) (by unfold maxLen; omega) hX6 hX7.2)
  have HE := Lib.hid (mencode_yes X hX6.2)
  have HN2 := Lib.hid (mnew_no 3 4 0 (by unfold b64i; omega) ⟨2, 1, 1, 9, 0, false, false, 0, T⟩ (by rw [← hT]; have := okM_room hX6.2; rw [encM_size]; unfold maxLen; omega) (hX8 T hT.symm))
  have HX7 := Lib.hid hX7.1
  have HT := Lib.hid hT
  have HD2 := Lib.hid (fun w E => mdecode_no (sS1 ++ ⟨#[98]⟩) w ea E (by unfold maxLen; decide) sane_3)
  have HD1 := Lib.hid (fun w E => mdecode_enc sm1 w ea E sane_2)
  have HE1 := Lib.hid (mencode_yes sm1 sane_2)
  have HS1 := Lib.hid sane_1
  clear hX hX3 hX6 hX7 hX8 hT
  go_enter Tryd.func13, Tryd.ntmps13
  have hB := Below.refl w.heap.size w
  go_wp2_with fail
  refine (HE1.out _).mono ?_
  rintro e w1 ⟨rfl, hb⟩
  rw [HS1.out]
  replace hB := hB.trans (hb.mono hB.size)
  clear hb
  go_wp2_with fail
  have hD1 := HD1.out w1 (E.stay hB)
  rw [HS1.out] at hD1
  refine hD1.mono ?_
  clear hD1
  rintro e w2 ⟨rfl, hb⟩
  replace hB := hB.trans (hb.mono hB.size)
  clear hb
  have hm := blk_new w2 (mo sm1)
  replace hB := hB.alloc hB.size (mo sm1)
  go_wp2_with fail
  refine (HD2.out _ (E.stay hB)).mono ?_
  rintro e w3 ⟨rfl, hb⟩
  replace hB := hB.trans (hb.mono hB.size)
  replace hm := blk_below hm hb (blk_lt hm)
  clear hb
  replace hB := hB.alloc hB.size (mo mz)
  replace hm := blk_alloc hm (mo mz)
  have hp := blk_new (w3.alloc (mo mz)) (po sp0)
  replace hB := hB.alloc hB.size (po sp0)
  replace hm := blk_alloc hm (po sp0)
  go_wp2_with fail
  refine (HN.out _).mono ?_
  rintro e w4 ⟨rfl, hb⟩
  replace hB := hB.trans (hb.mono hB.size)
  replace hm := blk_below hm hb (blk_lt hm)
  replace hp := blk_below hp hb (blk_lt hp)
  clear hb
  rw [HX.out]
  have hx := blk_new w4 (mo X)
  replace hB := hB.alloc hB.size (mo X)
  replace hm := blk_alloc hm (mo X)
  replace hp := blk_alloc hp (mo X)
  go_wp2_with fail
  refine (HQ.out _).mono ?_
  rintro e w5 ⟨rfl, hb⟩
  replace hB := hB.trans (hb.mono hB.size)
  replace hm := blk_below hm hb (blk_lt hm)
  replace hp := blk_below hp hb (blk_lt hp)
  replace hx := blk_below hx hb (blk_lt hx)
  clear hb
  rw [HX7.out]
  have hq := blk_new w5 (po { sp0 with s := ⟨#[48, 49, 50, 51, 52, 53, 54, 55]⟩ })
  replace hB := hB.alloc hB.size (po { sp0 with s := ⟨#[48, 49, 50, 51, 52, 53, 54, 55]⟩ })
  replace hm := blk_alloc hm (po { sp0 with s := ⟨#[48, 49, 50, 51, 52, 53, 54, 55]⟩ })
  replace hp := blk_alloc hp (po { sp0 with s := ⟨#[48, 49, 50, 51, 52, 53, 54, 55]⟩ })
  replace hx := blk_alloc hx (po { sp0 with s := ⟨#[48, 49, 50, 51, 52, 53, 54, 55]⟩ })
  obtain ⟨x0, xf0⟩ := blk_cell (k := 0) hx rfl
  obtain ⟨x1, xf1⟩ := blk_cell (k := 1) hx rfl
  obtain ⟨x2, xf2⟩ := blk_cell (k := 2) hx rfl
  obtain ⟨x3, xf3⟩ := blk_cell (k := 3) hx rfl
  simp only [List.getElem_toArray, List.getElem_cons_zero, List.getElem_cons_succ] at x0 x1 x2 x3
  clear xf0 xf1 xf2 xf3
  go_wp2_with fail
  refine (HE.out _).mono ?_
  rintro e w6 ⟨rfl, hb⟩
  replace hB := hB.trans (hb.mono hB.size)
  replace hm := blk_below hm hb (blk_lt hm)
  replace hp := blk_below hp hb (blk_lt hp)
  replace hx := blk_below hx hb (blk_lt hx)
  replace hq := blk_below hq hb (blk_lt hq)
  clear hb
  clear x0 x1 x2 x3
  rw [HT.out]
  go_wp2_with fail
  refine (HN2.out _).mono ?_
  rintro e w7 ⟨rfl, hb⟩
  replace hB := hB.trans (hb.mono hB.size)
  replace hm := blk_below hm hb (blk_lt hm)
  replace hp := blk_below hp hb (blk_lt hp)
  replace hx := blk_below hx hb (blk_lt hx)
  replace hq := blk_below hq hb (blk_lt hq)
  clear hb
  replace hB := hB.alloc hB.size (mo mz)
  replace hm := blk_alloc hm (mo mz)
  replace hp := blk_alloc hp (mo mz)
  replace hx := blk_alloc hx (mo mz)
  replace hq := blk_alloc hq (mo mz)
  go_wp2_with fail
  refine (pnew_any _).mono ?_
  rintro e w8 ⟨P, rfl, hPl, hT, hb⟩
  have hmz := blk_lt hm
  have hpz := blk_lt hp
  have hxz := blk_lt hx
  have hqz := blk_lt hq
  have hwz := hB.size
  have hb8 := hb.size
  have hT0 := hT.below (Below.refl _ _)
  replace hB := hB.trans (hb.mono hB.size)
  replace hm := blk_below hm hb (blk_lt hm)
  replace hp := blk_below hp hb (blk_lt hp)
  replace hx := blk_below hx hb (blk_lt hx)
  replace hq := blk_below hq hb (blk_lt hq)
  clear hb
  generalize (w7.alloc (mo mz)).heap.size = b8 at *
  go_wp2_with fail
  refine (lower_add b8 P (.slice none 0 0) [] 0 5 500 _ hT hb8 (by decide) (fun x hx => by cases hx) rfl (by omega) (by omega) (by omega) (by omega) (by omega) (by omega)).mono ?_
  rintro e w9 ⟨rfl, ⟨v1, hT9⟩, ht9⟩
  have hns : ∀ k, k < b8 → ¬ (k = P ∨ (Value.slice none 0 0).ownBlock = some k) := fun k hk h => by rcases h with h | h; omega; cases h
  replace hm := ht9.kept hm (hns _ (by omega))
  replace hp := ht9.kept hp (hns _ (by omega))
  replace hx := ht9.kept hx (hns _ (by omega))
  replace hq := ht9.kept hq (hns _ (by omega))
  replace hB := hB.trans (ht9.below (Nat.le_trans hwz hb8) (fun k h => by rcases h with h | h; omega; cases h))
  have hb9 := Nat.le_trans hb8 ht9.size
  clear hT hns ht9 hT0
  go_wp2_with fail
  refine (lower_no b8 P v1 [⟨5, 500, 0⟩] 1 5 500 5 500 0 _ hT9 (by decide) (fun x hx => by simp at hx; subst hx; decide) rfl (by decide) (by decide) (by omega) (by omega) (by omega) (by omega) (by omega) (by omega)).mono ?_
  rintro e w10 ⟨rfl, hT, ht⟩
  replace hm := ht.kept hm (by omega)
  replace hp := ht.kept hp (by omega)
  replace hx := ht.kept hx (by omega)
  replace hq := ht.kept hq (by omega)
  replace hB := hB.trans (ht.below (Nat.le_trans hwz hb9) (fun k h => by omega))
  clear hT9 ht
  obtain ⟨m0, mf0⟩ := blk_cell (k := 0) hm rfl
  obtain ⟨m1, mf1⟩ := blk_cell (k := 1) hm rfl
  obtain ⟨m2, mf2⟩ := blk_cell (k := 2) hm rfl
  obtain ⟨m3, mf3⟩ := blk_cell (k := 3) hm rfl
  simp only [List.getElem_toArray, List.getElem_cons_zero, List.getElem_cons_succ] at m0 m1 m2 m3
  clear mf0 mf1 mf2 mf3
  obtain ⟨x0, xf0⟩ := blk_cell (k := 0) hx rfl
  obtain ⟨x1, xf1⟩ := blk_cell (k := 1) hx rfl
  obtain ⟨x2, xf2⟩ := blk_cell (k := 2) hx rfl
  obtain ⟨x3, xf3⟩ := blk_cell (k := 3) hx rfl
  simp only [List.getElem_toArray, List.getElem_cons_zero, List.getElem_cons_succ] at x0 x1 x2 x3
  clear xf0 xf1 xf2 xf3
  obtain ⟨q0, qf0⟩ := blk_cell (k := 0) hq rfl
  obtain ⟨q1, qf1⟩ := blk_cell (k := 1) hq rfl
  obtain ⟨q2, qf2⟩ := blk_cell (k := 2) hq rfl
  obtain ⟨q3, qf3⟩ := blk_cell (k := 3) hq rfl
  obtain ⟨q4, qf4⟩ := blk_cell (k := 4) hq rfl
  obtain ⟨q5, qf5⟩ := blk_cell (k := 5) hq rfl
  obtain ⟨q6, qf6⟩ := blk_cell (k := 6) hq rfl
  obtain ⟨q7, qf7⟩ := blk_cell (k := 7) hq rfl
  obtain ⟨q8, qf8⟩ := blk_cell (k := 8) hq rfl
  simp only [List.getElem_toArray, List.getElem_cons_zero, List.getElem_cons_succ] at q0 q1 q2 q3 q4 q5 q6 q7 q8
  clear qf0 qf1 qf2 qf3 qf4 qf5 qf6 qf7 qf8
  have hz := psize_go b8 P v1 [⟨5, 500, 0⟩] 599 5 1000 _ hT (by decide) 5 500 0 rfl (by decide) (by decide) (by decide)
  rw [show (if (500 : Int) ≠ 0 ∧ (599 : Int) < 0 + 600 then min (1000 : Int) 500 else 1000) = 500 from by decide] at hz
  go_wp2_with fail
  refine hz.mono ?_
  clear hz
  rintro e w11 ⟨rfl, hb⟩
  replace hT := hT.below hb
  replace hB := hB.trans (hb.mono hB.size)
  replace hm := blk_below hm hb (blk_lt hm)
  replace hp := blk_below hp hb (blk_lt hp)
  replace hx := blk_below hx hb (blk_lt hx)
  replace hq := blk_below hq hb (blk_lt hq)
  clear hb
  clear m0 m1 m2 m3 x0 x1 x2 x3 q0 q1 q2 q3 q4 q5 q6 q7 q8
  obtain ⟨m0, mf0⟩ := blk_cell (k := 0) hm rfl
  obtain ⟨m1, mf1⟩ := blk_cell (k := 1) hm rfl
  obtain ⟨m2, mf2⟩ := blk_cell (k := 2) hm rfl
  obtain ⟨m3, mf3⟩ := blk_cell (k := 3) hm rfl
  simp only [List.getElem_toArray, List.getElem_cons_zero, List.getElem_cons_succ] at m0 m1 m2 m3
  clear mf0 mf1 mf2 mf3
  have hz := psize_go b8 P v1 [⟨5, 500, 0⟩] 600 5 1000 _ hT (by decide) 5 500 0 rfl (by decide) (by decide) (by decide)
  rw [show (if (500 : Int) ≠ 0 ∧ (600 : Int) < 0 + 600 then min (1000 : Int) 500 else 1000) = 1000 from by decide] at hz
  go_wp2_with fail
  refine hz.mono ?_
  clear hz
  rintro e w12 ⟨rfl, hb⟩
  replace hT := hT.below hb
  replace hB := hB.trans (hb.mono hB.size)
  replace hm := blk_below hm hb (blk_lt hm)
  replace hp := blk_below hp hb (blk_lt hp)
  replace hx := blk_below hx hb (blk_lt hx)
  replace hq := blk_below hq hb (blk_lt hq)
  clear hb
  clear m0 m1 m2 m3
  obtain ⟨m0, mf0⟩ := blk_cell (k := 0) hm rfl
  obtain ⟨m1, mf1⟩ := blk_cell (k := 1) hm rfl
  obtain ⟨m2, mf2⟩ := blk_cell (k := 2) hm rfl
  obtain ⟨m3, mf3⟩ := blk_cell (k := 3) hm rfl
  simp only [List.getElem_toArray, List.getElem_cons_zero, List.getElem_cons_succ] at m0 m1 m2 m3
  clear mf0 mf1 mf2 mf3
  have hz := psize_go b8 P v1 [⟨5, 500, 0⟩] 9 6 1000 _ hT (by decide) 0 0 0 rfl (by decide) (by decide) (by decide)
  rw [show (if (0 : Int) ≠ 0 ∧ (9 : Int) < 0 + 600 then min (1000 : Int) 0 else 1000) = 1000 from by decide] at hz
  go_wp2_with fail
  refine hz.mono ?_
  clear hz
  rintro e w13 ⟨rfl, hb⟩
  replace hT := hT.below hb
  replace hB := hB.trans (hb.mono hB.size)
  replace hm := blk_below hm hb (blk_lt hm)
  replace hp := blk_below hp hb (blk_lt hp)
  replace hx := blk_below hx hb (blk_lt hx)
  replace hq := blk_below hq hb (blk_lt hq)
  clear hb
  clear m0 m1 m2 m3
  obtain ⟨m0, mf0⟩ := blk_cell (k := 0) hm rfl
  obtain ⟨m1, mf1⟩ := blk_cell (k := 1) hm rfl
  obtain ⟨m2, mf2⟩ := blk_cell (k := 2) hm rfl
  obtain ⟨m3, mf3⟩ := blk_cell (k := 3) hm rfl
  simp only [List.getElem_toArray, List.getElem_cons_zero, List.getElem_cons_succ] at m0 m1 m2 m3
  clear mf0 mf1 mf2 mf3
  have hz := psize_go b8 P v1 [⟨5, 500, 0⟩] 9 5 400 _ hT (by decide) 5 500 0 rfl (by decide) (by decide) (by decide)
  rw [show (if (500 : Int) ≠ 0 ∧ (9 : Int) < 0 + 600 then min (400 : Int) 500 else 400) = 400 from by decide] at hz
  go_wp2_with fail
  refine hz.mono ?_
  clear hz
  rintro e w14 ⟨rfl, hb⟩
  replace hT := hT.below hb
  replace hB := hB.trans (hb.mono hB.size)
  replace hm := blk_below hm hb (blk_lt hm)
  replace hp := blk_below hp hb (blk_lt hp)
  replace hx := blk_below hx hb (blk_lt hx)
  replace hq := blk_below hq hb (blk_lt hq)
  clear hb
  clear m0 m1 m2 m3
  obtain ⟨m0, mf0⟩ := blk_cell (k := 0) hm rfl
  obtain ⟨m1, mf1⟩ := blk_cell (k := 1) hm rfl
  obtain ⟨m2, mf2⟩ := blk_cell (k := 2) hm rfl
  obtain ⟨m3, mf3⟩ := blk_cell (k := 3) hm rfl
  simp only [List.getElem_toArray, List.getElem_cons_zero, List.getElem_cons_succ] at m0 m1 m2 m3
  clear mf0 mf1 mf2 mf3
  go_wp2_with fail
  refine (plen_any b8 P v1 [⟨5, 500, 0⟩] _ hT).mono ?_
  rintro e w20 ⟨rfl, rfl⟩
  go_wp2_with fail
  refine (mvalid_any sm1 (by unfold b64i; decide) (by unfold maxLen; decide) _).mono ?_
  rintro e w21 ⟨rfl, hb⟩
  rw [show decide (okM sm1) = true from by decide]
  replace hB := hB.trans (hb.mono hB.size)
  replace hm := blk_below hm hb (blk_lt hm)
  replace hp := blk_below hp hb (blk_lt hp)
  replace hx := blk_below hx hb (blk_lt hx)
  replace hq := blk_below hq hb (blk_lt hq)
  clear hb
  clear m0 m1 m2 m3
  go_wp2_with fail
  refine (mvalid_any mz (by unfold b64i; decide) (by unfold maxLen; decide) _).mono ?_
  rintro e w22 ⟨rfl, hb⟩
  rw [show decide (okM mz) = false from by decide]
  replace hB := hB.trans (hb.mono hB.size)
  replace hm := blk_below hm hb (blk_lt hm)
  replace hp := blk_below hp hb (blk_lt hp)
  replace hx := blk_below hx hb (blk_lt hx)
  replace hq := blk_below hq hb (blk_lt hq)
  clear hb
  go_wp2
  go_ret
  exact ⟨rfl, hB⟩
end Go.Proofs.YtidjbpglpobigaaDoor

/- The reference's Last, Format and FormatPrefix. -/
import Derived.Test.YtobcecnmeepjpaaDoorRefB
namespace Go.Proofs.YtobcecnmeepjpaaDoor
open Go.RowKit
set_option linter.unusedVariables false

set_option maxRecDepth 20000 in
theorem rlast_in (a b : Int) (w : World) (la : -9223372036854775808 ≤ a) (ua : a ≤ 9223372036854775807) (lb : -9223372036854775808 ≤ b) (ub : b ≤ 9223372036854775807) (h : vpZ a b = true) :
    Calls Tryd.prog 31 #[.agg #[.int .i64 a, .int .i64 b]] w fun e w' => e = .returned (.int .i64 (a + (szZ b - 1))) ∧ Below w.heap.size w w' := by
  obtain ⟨h1, h2, h3, h4⟩ := vpZ_bd h
  have hl := last_bd h
  have V := Lib.hid (rvp_any a b · la ua lb ub)
  rw [h] at V
  have hs := sz_bd b h3 h4
  have Z := Lib.hid (size_any b · h3 h4)
  obtain ⟨S, hS⟩ : ∃ S, szZ b = S := ⟨_, rfl⟩
  rw [hS] at hs Z hl
  rw [hS]
  clear hS
  have r1 : IntKind.i64.wrap (a + S) = a + S := wrap_id (by omega) (by omega)
  have r2 : IntKind.i64.wrap (a + S - 1) = a + S - 1 := wrap_id (by omega) (by omega)
  go_enter Tryd.func31, Tryd.ntmps31
  go_wp2_with fail
  refine (V.out _).mono ?_
  rintro e w' ⟨rfl, hb⟩
  have hk := keep2d (keep2 (keep2n w _ _ _) hb)
  obtain ⟨k0, k1, k2⟩ := keep2 (keep2n w (.int .i64 a) (.int .i64 b) 23) hb
  go_wp2_with fail
  refine wp_region_noPanic ?_
  refine wp_region_held_drew (S := fun w' => Below w.heap.size w w' ∧ w'.cell? ⟨w.heap.size, 0, none⟩ = some (.int .i64 a) ∧ w'.cell? ⟨w.heap.size, 1, none⟩ = some (.int .i64 b)) (by kernel_rfl) (hk) (fun hHeld => ?_)
  first
    | (refine wpAnyH_take (i := 0) (oi := ⟨some 6, _, _, _, _, _⟩) (v := ?v0) rfl (by kernel_rfl) (by kernel_rfl) (by kernel_rfl) (fun _ _ _ h => h) (Or.inl ⟨by rfl, ?hy0⟩) hHeld ?rr0
       case hy0 => (intro w hSw; (try dsimp only at hSw); go_simp; try with_reducible rfl))
    | (refine wpAnyH_take (i := 0) (oi := ⟨some 6, _, _, _, _, _⟩) (v := undef) rfl (by kernel_rfl) (by kernel_rfl) (by kernel_rfl) (fun _ _ _ h => h) (Or.inr ⟨by rfl, rfl⟩) hHeld ?rr0)
  try simp only [Act.put, List.setIfInBounds_toArray, List.set_cons_zero, List.set_cons_succ]
  try rw [r1]
  try rw [r2]
  first
    | (refine wpAnyH_take (i := 1) (oi := ⟨some 7, _, _, _, _, _⟩) (v := ?v1) rfl (by kernel_rfl) (by kernel_rfl) (by kernel_rfl) (fun _ _ _ h => h) (Or.inl ⟨by rfl, ?hy1⟩) hHeld ?rr1
       case hy1 => (intro w hSw; (try dsimp only at hSw); go_simp; try with_reducible rfl))
    | (refine wpAnyH_take (i := 1) (oi := ⟨some 7, _, _, _, _, _⟩) (v := undef) rfl (by kernel_rfl) (by kernel_rfl) (by kernel_rfl) (fun _ _ _ h => h) (Or.inr ⟨by rfl, rfl⟩) hHeld ?rr1)
  try simp only [Act.put, List.setIfInBounds_toArray, List.set_cons_zero, List.set_cons_succ]
  try rw [r1]
  try rw [r2]
  first
    | (refine wpAnyH_take (i := 2) (oi := ⟨some 8, _, _, _, _, _⟩) (v := ?v2) rfl (by kernel_rfl) (by kernel_rfl) (by kernel_rfl) (fun _ _ _ h => h) (Or.inl ⟨by rfl, ?hy2⟩) hHeld ?rr2
       case hy2 => (intro w hSw; (try dsimp only at hSw); go_simp; try with_reducible rfl))
    | (refine wpAnyH_take (i := 2) (oi := ⟨some 8, _, _, _, _, _⟩) (v := undef) rfl (by kernel_rfl) (by kernel_rfl) (by kernel_rfl) (fun _ _ _ h => h) (Or.inr ⟨by rfl, rfl⟩) hHeld ?rr2)
  try simp only [Act.put, List.setIfInBounds_toArray, List.set_cons_zero, List.set_cons_succ]
  try rw [r1]
  try rw [r2]
  first
    | (refine wpAnyH_take (i := 3) (oi := ⟨some 9, _, _, _, _, _⟩) (v := ?v3) rfl (by kernel_rfl) (by kernel_rfl) (by kernel_rfl) (fun _ _ _ h => h) (Or.inl ⟨by rfl, ?hy3⟩) hHeld ?rr3
       case hy3 => (intro w hSw; (try dsimp only at hSw); go_simp; try with_reducible rfl))
    | (refine wpAnyH_take (i := 3) (oi := ⟨some 9, _, _, _, _, _⟩) (v := undef) rfl (by kernel_rfl) (by kernel_rfl) (by kernel_rfl) (fun _ _ _ h => h) (Or.inr ⟨by rfl, rfl⟩) hHeld ?rr3)
  try simp only [Act.put, List.setIfInBounds_toArray, List.set_cons_zero, List.set_cons_succ]
  try rw [r1]
  try rw [r2]
  refine wpAnyH_ready (rs := [4]) (by kernel_rfl) (by simp) ?_
  refine AllReadyH.cons (o := ⟨some 10, _, _, _, _, _⟩) rfl (fun K hK => ?_) AllReadyH.nil
  go_simp
  (go_at_call 44; refine (Z.out _).mono ?_; rintro e w2 ⟨rfl, rfl⟩)
  refine hK.out _ _ (hHeld) (fun hHeld2 => ?_)
  clear hK K hHeld
  have hHeld := hHeld2
  clear hHeld2
  try simp only [Act.put, List.setIfInBounds_toArray, List.set_cons_zero, List.set_cons_succ]
  try rw [r1]
  try rw [r2]
  first
    | (refine wpAnyH_take (i := 5) (oi := ⟨some 11, _, _, _, _, _⟩) (v := ?v5) rfl (by kernel_rfl) (by kernel_rfl) (by kernel_rfl) (fun _ _ _ h => h) (Or.inl ⟨by rfl, ?hy5⟩) hHeld ?rr5
       case hy5 => (intro w hSw; (try dsimp only at hSw); go_simp; try with_reducible rfl))
    | (refine wpAnyH_take (i := 5) (oi := ⟨some 11, _, _, _, _, _⟩) (v := undef) rfl (by kernel_rfl) (by kernel_rfl) (by kernel_rfl) (fun _ _ _ h => h) (Or.inr ⟨by rfl, rfl⟩) hHeld ?rr5)
  try simp only [Act.put, List.setIfInBounds_toArray, List.set_cons_zero, List.set_cons_succ]
  try rw [r1]
  try rw [r2]
  first
    | (refine wpAnyH_take (i := 6) (oi := ⟨some 12, _, _, _, _, _⟩) (v := ?v6) rfl (by kernel_rfl) (by kernel_rfl) (by kernel_rfl) (fun _ _ _ h => h) (Or.inl ⟨by rfl, ?hy6⟩) hHeld ?rr6
       case hy6 => (intro w hSw; (try dsimp only at hSw); go_simp; try with_reducible rfl))
    | (refine wpAnyH_take (i := 6) (oi := ⟨some 12, _, _, _, _, _⟩) (v := undef) rfl (by kernel_rfl) (by kernel_rfl) (by kernel_rfl) (fun _ _ _ h => h) (Or.inr ⟨by rfl, rfl⟩) hHeld ?rr6)
  try simp only [Act.put, List.setIfInBounds_toArray, List.set_cons_zero, List.set_cons_succ]
  try rw [r1]
  try rw [r2]
  first
    | (refine wpAnyH_take (i := 7) (oi := ⟨some 2, _, _, _, _, _⟩) (v := ?v7) rfl (by kernel_rfl) (by kernel_rfl) (by kernel_rfl) (fun _ _ _ h => h) (Or.inl ⟨by rfl, ?hy7⟩) hHeld ?rr7
       case hy7 => (intro w hSw; (try dsimp only at hSw); go_simp; try with_reducible rfl))
    | (refine wpAnyH_take (i := 7) (oi := ⟨some 2, _, _, _, _, _⟩) (v := undef) rfl (by kernel_rfl) (by kernel_rfl) (by kernel_rfl) (fun _ _ _ h => h) (Or.inr ⟨by rfl, rfl⟩) hHeld ?rr7)
  try simp only [Act.put, List.setIfInBounds_toArray, List.set_cons_zero, List.set_cons_succ]
  try rw [r1]
  try rw [r2]
  refine wpAnyH_done (by kernel_rfl) ?_ _
  refine NoPanic.normal ?_
  go_wp2
  go_ret
  exact ⟨ret_int (by omega), hHeld.1⟩

theorem rlast_out (a b : Int) (w : World) (la : -9223372036854775808 ≤ a) (ua : a ≤ 9223372036854775807) (lb : -9223372036854775808 ≤ b) (ub : b ≤ 9223372036854775807) (h : vpZ a b = false) :
    Calls Tryd.prog 31 #[.agg #[.int .i64 a, .int .i64 b]] w fun e w' => e = .returned (.int .i64 0) ∧ Below w.heap.size w w' := by
  have V := Lib.hid (rvp_any a b · la ua lb ub)
  rw [h] at V
  go_enter Tryd.func31, Tryd.ntmps31
  go_wp2_with fail
  refine (V.out _).mono ?_
  rintro e w' ⟨rfl, hb⟩
  have hk := (keep2 (keep2n w _ _ _) hb)
  go_wp2_with fail
  go_ret
  exact ⟨rfl, hk.1⟩
theorem rlast_any (a b : Int) (w : World) (la : -9223372036854775808 ≤ a) (ua : a ≤ 9223372036854775807) (lb : -9223372036854775808 ≤ b) (ub : b ≤ 9223372036854775807) :
    Calls Tryd.prog 31 #[.agg #[.int .i64 a, .int .i64 b]] w fun e w' => e = .returned (.int .i64 (lastZ a b)) ∧ Below w.heap.size w w' := by
  unfold lastZ
  cases h : vpZ a b
  · exact rlast_out a b w la ua lb ub h
  · exact rlast_in a b w la ua lb ub h

theorem rfmt_no (a : Int) (w : World) (la : -9223372036854775808 ≤ a) (ua : a ≤ 9223372036854775807) (h : validZ a = false) :
    Calls Tryd.prog 14 #[.int .i64 a] w fun e w' => e = .returned (.tuple #[.string ⟨#[]⟩, .int .i64 30]) ∧ Below w.heap.size w w' := by
  have V := Lib.hid (rvalid_any a · la ua)
  rw [h] at V
  go_enter Tryd.func14, Tryd.ntmps14
  go_wp2_with fail
  refine (V.out _).mono ?_
  rintro e w' ⟨rfl, rfl⟩
  go_wp2_with fail
  go_ret2
  exact ⟨rfl, Below.refl _ _⟩

set_option maxRecDepth 20000 in
set_option maxHeartbeats 2000000 in
theorem rfmt_in (a : Int) (w : World) (h : 0 ≤ a) (h2 : a ≤ 4294967295) :
    Calls Tryd.prog 14 #[.int .i64 a] w fun e w' => e = .returned (.tuple #[.string ⟨(fmtL a).toArray⟩, .int .i64 0]) ∧ Below w.heap.size w w' := by
  have V := Lib.hid (rvalid_any a · (by omega) (by omega))
  rw [show validZ a = true by simp [validZ, h, h2]] at V
  have hf : fmtL a = Lib.join [Lib.itoa (a / 16777216), Lib.itoa (a / 65536 % 256), Lib.itoa (a / 256 % 256), Lib.itoa (a % 256)] [46] := by unfold fmtL; rw [show a / 16777216 % 256 = a / 16777216 by omega]
  have l0 := (itoa_len (a / 16777216) (by omega) (by omega)).2
  have D0 := fun w => Lib.hid (dig_any (a / 16777216) w (by omega) (by omega))
  obtain ⟨d0, hd0⟩ : ∃ d : ByteArray, ⟨(Lib.itoa (a / 16777216)).toArray⟩ = d := ⟨_, rfl⟩
  have e0 : d0.data.toList = Lib.itoa (a / 16777216) := by rw [← hd0]
  have z0 : d0.size ≤ 3 := by rw [← hd0, size_mk]; exact l0
  simp only [hd0] at D0
  have l1 := (itoa_len (a / 65536 % 256) (by omega) (by omega)).2
  have D1 := fun w => Lib.hid (dig_any (a / 65536 % 256) w (by omega) (by omega))
  obtain ⟨d1, hd1⟩ : ∃ d : ByteArray, ⟨(Lib.itoa (a / 65536 % 256)).toArray⟩ = d := ⟨_, rfl⟩
  have e1 : d1.data.toList = Lib.itoa (a / 65536 % 256) := by rw [← hd1]
  have z1 : d1.size ≤ 3 := by rw [← hd1, size_mk]; exact l1
  simp only [hd1] at D1
  have l2 := (itoa_len (a / 256 % 256) (by omega) (by omega)).2
  have D2 := fun w => Lib.hid (dig_any (a / 256 % 256) w (by omega) (by omega))
  obtain ⟨d2, hd2⟩ : ∃ d : ByteArray, ⟨(Lib.itoa (a / 256 % 256)).toArray⟩ = d := ⟨_, rfl⟩
  have e2 : d2.data.toList = Lib.itoa (a / 256 % 256) := by rw [← hd2]
  have z2 : d2.size ≤ 3 := by rw [← hd2, size_mk]; exact l2
  simp only [hd2] at D2
  have l3 := (itoa_len (a % 256) (by omega) (by omega)).2
  have D3 := fun w => Lib.hid (dig_any (a % 256) w (by omega) (by omega))
  obtain ⟨d3, hd3⟩ : ∃ d : ByteArray, ⟨(Lib.itoa (a % 256)).toArray⟩ = d := ⟨_, rfl⟩
  have e3 : d3.data.toList = Lib.itoa (a % 256) := by rw [← hd3]
  have z3 : d3.size ≤ 3 := by rw [← hd3, size_mk]; exact l3
  simp only [hd3] at D3
  have y0 : (d0 ++ ⟨#[46]⟩).size = d0.size + 1 := by rw [ByteArray.size_append]; rfl
  obtain ⟨t1, ht1⟩ : ∃ t, d0 ++ ⟨#[46]⟩ = t := ⟨_, rfl⟩
  have y1 : (t1 ++ d1).size = t1.size + d1.size := ByteArray.size_append
  obtain ⟨t2, ht2⟩ : ∃ t, t1 ++ d1 = t := ⟨_, rfl⟩
  have y2 : (t2 ++ ⟨#[46]⟩).size = t2.size + 1 := by rw [ByteArray.size_append]; rfl
  obtain ⟨t3, ht3⟩ : ∃ t, t2 ++ ⟨#[46]⟩ = t := ⟨_, rfl⟩
  have y3 : (t3 ++ d2).size = t3.size + d2.size := ByteArray.size_append
  obtain ⟨t4, ht4⟩ : ∃ t, t3 ++ d2 = t := ⟨_, rfl⟩
  have y4 : (t4 ++ ⟨#[46]⟩).size = t4.size + 1 := by rw [ByteArray.size_append]; rfl
  obtain ⟨t5, ht5⟩ : ∃ t, t4 ++ ⟨#[46]⟩ = t := ⟨_, rfl⟩
  have hr : (⟨(fmtL a).toArray⟩ : ByteArray) = t5 ++ d3 := by
    apply str_inj
    rw [← ht5, ← ht4, ← ht3, ← ht2, ← ht1]
    simp only [ByteArray.data_append, Array.toList_append, e0, e1, e2, e3, hf, join4]
    simp
  rw [ht1] at y0; rw [ht2] at y1; rw [ht3] at y2; rw [ht4] at y3; rw [ht5] at y4
  rw [hr]
  clear hr hf hd0 hd1 hd2 hd3 e0 e1 e2 e3 l0 l1 l2 l3
  have q1 : t1.size ≤ 4 := by omega
  have q2 : t2.size ≤ 7 := by omega
  have q3 : t3.size ≤ 8 := by omega
  have q4 : t4.size ≤ 11 := by omega
  have q5 : t5.size ≤ 12 := by omega
  clear y0 y1 y2 y3 y4
  go_enter Tryd.func14, Tryd.ntmps14
  go_wp2_with fail
  refine (V.out _).mono ?_
  rintro e w' ⟨rfl, rfl⟩
  go_wp2_with fail
  refine (D0 _).out.mono ?_
  rintro e w1 ⟨rfl, hb1⟩
  go_wp2_with fail
  refine (D1 _).out.mono ?_
  rintro e w2 ⟨rfl, hb2⟩
  have h1' := hb1.trans (hb2.mono hb1.size)
  clear hb1 hb2
  go_wp2_with fail
  refine (D2 _).out.mono ?_
  rintro e w3 ⟨rfl, hb3⟩
  have h2' := h1'.trans (hb3.mono h1'.size)
  clear h1' hb3
  go_wp2_with fail
  refine (D3 _).out.mono ?_
  rintro e w4 ⟨rfl, hb4⟩
  have h3' := h2'.trans (hb4.mono h2'.size)
  clear h2' hb4
  go_wp2_with fail
  go_ret2
  exact ⟨rfl, h3'⟩
theorem rformat_any (a : Int) (w : World) (la : -9223372036854775808 ≤ a) (ua : a ≤ 9223372036854775807) :
    Calls Tryd.prog 14 #[.int .i64 a] w fun e w' => e = .returned (.tuple #[.string (fS a), .int .i64 (fE a)]) ∧ Below w.heap.size w w' := by
  unfold fS fE
  cases h : validZ a with
  | true => exact rfmt_in a w (validZ_bd h).1 (validZ_bd h).2
  | false => exact rfmt_no a w la ua h
end Go.Proofs.YtobcecnmeepjpaaDoor

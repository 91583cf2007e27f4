/- The walk of ARPNilAndInvalid. -/
import Derived.Test.YtpkfjlbjahghgaaAtSane
import Derived.Test.YtpkfjlbjahghgaaAtSize
import Derived.Test.YtpkfjlbjahghgaaAwMsg
import Derived.Test.YtpkfjlbjahghgaaAwBy
namespace Go.Proofs.Ytpkfjlbjahghgaa
open Go.RowKit Go.Maps
set_option linter.unusedVariables false
attribute [local go_sem] Oper.semAt_some

set_option maxRecDepth 20000 in
theorem tick_nil (n : Int) (w : World) :
    Calls Try.prog 28 #[.pointer none, .int .i64 n] w fun e w' => e = .returned (.tuple #[.slice none 0 0, .slice none 0 0]) ∧ Below w.heap.size w w' := by
  go_enter Try.func28, Try.ntmps28
  go_wp2
  go_ret2
  exact ⟨rfl, ((Below.refl _ w).alloc (Nat.le_refl _) _).alloc (by simp) _⟩

set_option maxRecDepth 100000 in
set_option maxHeartbeats 8000000 in
theorem walk_ARPNilAndInvalid (c : Cl) (n : Int) (W : World) (hc : c.ok) (hn1 : -9223372036854775808 ≤ n) (hn2 : n ≤ 9223372036854775807) :
    Calls Try.prog 11 #[clv c, .int .i64 n] W fun e W' => e = .returned (.bool true) ∧ Below W.heap.size W W' := by
  obtain ⟨a1, a2⟩ := pickZ_bd n 1000 (by decide)
  obtain ⟨a3, a4⟩ := pickZ_bd n 100 (by decide)
  have HM := fun w => message_any c hc w
  obtain ⟨k, a, m, t, o, s, ti, x1, x2, x3, x4, x5⟩ := c
  clear hc
  go_enter Try.func11, Try.ntmps11
  go_wp2_with fail
  refine (sanity_any _).mono ?_
  rintro e w1 ⟨rfl, hb1⟩
  have hB1 : Below W.heap.size W w1 := ((Below.refl _ W).alloc (Nat.le_refl _) _).trans (hb1.mono (by simp))
  have hA1 := blk_below (blk_new W (clo ⟨k, a, m, t, o, s, ti, x1, x2, x3, x4, x5⟩)) hb1 (by simp)
  clear hb1
  go_wp2_with fail
  refine (send_nil _ _ _ _).mono ?_
  rintro e w2 ⟨rfl, rfl⟩
  have d0 : w1.cell? ⟨W.heap.size, 0, none⟩ = some (.int .u8 k) := (blk_cell (k := 0) hA1 rfl).1
  have d1 : w1.cell? ⟨W.heap.size, 1, none⟩ = some (.int .i64 a) := (blk_cell (k := 1) hA1 rfl).1
  have d2 : w1.cell? ⟨W.heap.size, 2, none⟩ = some (.int .i64 m) := (blk_cell (k := 2) hA1 rfl).1
  have d3 : w1.cell? ⟨W.heap.size, 3, none⟩ = some (.int .i64 t) := (blk_cell (k := 3) hA1 rfl).1
  have d4 : w1.cell? ⟨W.heap.size, 4, none⟩ = some (.int .i64 o) := (blk_cell (k := 4) hA1 rfl).1
  have d5 : w1.cell? ⟨W.heap.size, 5, none⟩ = some (.string s) := (blk_cell (k := 5) hA1 rfl).1
  have d6 : w1.cell? ⟨W.heap.size, 6, none⟩ = some (.int .i64 ti) := (blk_cell (k := 6) hA1 rfl).1
  have d7 : w1.cell? ⟨W.heap.size, 7, none⟩ = some (.int .i64 x1) := (blk_cell (k := 7) hA1 rfl).1
  have d8 : w1.cell? ⟨W.heap.size, 8, none⟩ = some (.int .i64 x2) := (blk_cell (k := 8) hA1 rfl).1
  have d9 : w1.cell? ⟨W.heap.size, 9, none⟩ = some (.int .i64 x3) := (blk_cell (k := 9) hA1 rfl).1
  have d10 : w1.cell? ⟨W.heap.size, 10, none⟩ = some (.int .i64 x4) := (blk_cell (k := 10) hA1 rfl).1
  have d11 : w1.cell? ⟨W.heap.size, 11, none⟩ = some (.int .i64 x5) := (blk_cell (k := 11) hA1 rfl).1
  go_wp2_with fail
  refine (HM _).mono ?_
  rintro e w3 ⟨rfl, hb3⟩
  clear HM d0 d1 d2 d3 d4 d5 d6 d7 d8 d9 d10 d11 hA1
  have hB3 := hB1.trans (hb3.mono hB1.size)
  clear hb3 hB1
  go_wp2_with fail
  refine (recv_nil _ _ _ _ _ _ _).mono ?_
  rintro e w4 ⟨rfl, hb4⟩
  have hB4 := hB3.trans (hb4.mono hB3.size)
  clear hb4 hB3
  go_wp2_with fail
  refine (tick_nil _ _).mono ?_
  rintro e w5 ⟨rfl, hb5⟩
  have hB5 := hB4.trans (hb5.mono hB4.size)
  clear hb5 hB4
  go_wp2_with fail
  refine (known_nil _ _).mono ?_
  rintro e w6 ⟨rfl, rfl⟩
  go_wp2_with fail
  refine (sizes_nil _).mono ?_
  rintro e w6 ⟨rfl, rfl⟩
  go_wp2_with fail
  refine (new_ok 10 5 _ (by decide) (by decide)).mono ?_
  rintro e w7 ⟨rfl, hb7, ht7⟩
  have hB7 := hB5.trans (hb7.mono hB5.size)
  clear hb7
  obtain ⟨T, hTT⟩ : ∃ T, w5.heap.size + 1 = T := ⟨_, rfl⟩
  obtain ⟨mb, hMB⟩ : ∃ m, w5.heap.size = m := ⟨_, rfl⟩
  rw [hTT]
  rw [hTT, hMB] at ht7
  have HT := Lib.hid ht7
  clear hTT hMB ht7 hB5
  go_wp2_with fail
  refine (pick_any n 1000 _ hn1 hn2 (by decide) (by decide)).mono ?_
  rintro e w8 ⟨rfl, rfl⟩
  obtain ⟨p, hp⟩ : ∃ p, pickZ n 1000 = p := ⟨_, rfl⟩
  rw [hp] at a1 a2
  rw [hp]
  have HPp := Lib.hid hp
  clear hp
  go_wp2_with fail
  refine (send_bad HT.out 0 (-p) _ (by unfold okS okOne; omega)).mono ?_
  rintro e w8 ⟨rfl, rfl⟩
  go_wp2_with fail
  refine (pick_any n 1000 _ hn1 hn2 (by decide) (by decide)).mono ?_
  rintro e w8 ⟨rfl, rfl⟩
  rw [HPp.out]
  go_wp2_with fail
  refine (send_bad HT.out 0 (4294967295 + p) _ (by unfold okS okOne; omega)).mono ?_
  rintro e w8 ⟨rfl, rfl⟩
  go_wp2_with fail
  refine (pick_any n 100 _ hn1 hn2 (by decide) (by decide)).mono ?_
  rintro e w8 ⟨rfl, rfl⟩
  obtain ⟨q, hq⟩ : ∃ q : Nat, pickZ n 100 = (q : Int) := ⟨(pickZ n 100).toNat, by omega⟩
  rw [hq] at a3 a4
  rw [hq]
  obtain ⟨z, hz⟩ : ∃ z : Nat, 1025 + q = z := ⟨_, rfl⟩
  have hz2 : (1025 + (q : Int)) = (z : Int) := by omega
  have hz3 : 1025 ≤ z ∧ z ≤ 1125 := by omega
  have hmk := fun w => run_make_row' (P := Try.prog) 34 5 (.int .u8 0) 1 Try.underlying34 infoU8 rfl .i64 .i64 z (by omega) (by omega) w
  obtain ⟨nz, hnz⟩ : ∃ nz : ByteArray, nz = ⟨(List.replicate z (0 : UInt8)).toArray⟩ := ⟨_, rfl⟩
  have hnzz : nz.size = z := by rw [hnz]; simp [ByteArray.size]
  have hcz := from_bytes (cap := z) (made_bytes w7 z) z (by simp)
  rw [← hnz] at hcz
  have HT8 := Lib.hid (HT.out.kept (w' := w7.alloc (.cells (madeCells #[.int .u8 0] z) 5)) (fun k hk => Below.heap_alloc w7 _ k (HT.out.lt k hk).2))
  have hB8 := hB7.alloc (by exact hB7.size) (.cells (madeCells #[.int .u8 0] z) 5)
  clear hq hz hnz HT a3 a4 hB7
  go_wp2_with fail
  refine (send_bad HT8.out 0 11 _ (by unfold okS; omega)).mono ?_
  rintro e w9 ⟨rfl, rfl⟩
  clear hmk hcz
  go_wp2_with fail
  refine (sizes_tab HT8.out (by simp) (by simp)).mono ?_
  rintro e w10 ⟨rfl, hb10⟩
  have hB10 := hB8.trans (hb10.mono hB8.size)
  clear hb10 hB8 HT8
  simp only [List.length_nil, List.map_nil, sumL]
  go_wp2
  go_ret
  exact ⟨rfl, hB10⟩
end Go.Proofs.Ytpkfjlbjahghgaa

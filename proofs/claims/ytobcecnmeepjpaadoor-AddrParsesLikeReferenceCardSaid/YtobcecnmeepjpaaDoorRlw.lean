/- The walk of AddrParsesLikeReference. -/
import Derived.Test.YtobcecnmeepjpaaDoorRppw
import Derived.Test.YtobcecnmeepjpaaDoorRefD
import Derived.BigRegion
namespace Go.Proofs.YtobcecnmeepjpaaDoor
open Go.RowKit
set_option linter.unusedVariables false

theorem kc2 {W w' : World} {a : Addr} {v : Value} (hb : Below W.heap.size W w') (h : W.cell? a = some v) : w'.cell? a = some v := (hb.cell (World.block_lt_of_cell? _ _ h)).trans h

theorem rpp_any (s : ByteArray) (w : World) (hs : s.size ≤ 4294967280) :
    Calls Tryd.prog 19 #[.string s] w fun e w' => e = .returned (.tuple #[.agg #[.int .i64 (ppA s), .int .i64 (ppB s)], .int .i64 (ppE s)]) ∧ Below w.heap.size w w' := rpp_go s w (ppL s) hs rfl
theorem nine (W : World) (B : Nat) (y0 y1 y2 y3 y4 y5 y6 y7 y8 : ByteArray) (m : Nat)
    (h0 : y0.size ≤ m) (h1 : y1.size ≤ m) (h2 : y2.size ≤ m) (h3 : y3.size ≤ m) (h4 : y4.size ≤ m) (h5 : y5.size ≤ m) (h6 : y6.size ≤ m) (h7 : y7.size ≤ m) (h8 : y8.size ≤ m)
    (c0 : W.cell? ⟨B, 0, none⟩ = some (.string y0)) (c1 : W.cell? ⟨B, 1, none⟩ = some (.string y1)) (c2 : W.cell? ⟨B, 2, none⟩ = some (.string y2)) (c3 : W.cell? ⟨B, 3, none⟩ = some (.string y3)) (c4 : W.cell? ⟨B, 4, none⟩ = some (.string y4))
    (c5 : W.cell? ⟨B, 5, none⟩ = some (.string y5)) (c6 : W.cell? ⟨B, 6, none⟩ = some (.string y6)) (c7 : W.cell? ⟨B, 7, none⟩ = some (.string y7)) (c8 : W.cell? ⟨B, 8, none⟩ = some (.string y8)) :
    ∀ j : Nat, j < 9 → ∃ y, W.cell? ⟨B, j, none⟩ = some (.string y) ∧ y.size ≤ m := by
  intro j hj
  match j, hj with
  | 0, _ => exact ⟨_, c0, h0⟩
  | 1, _ => exact ⟨_, c1, h1⟩
  | 2, _ => exact ⟨_, c2, h2⟩
  | 3, _ => exact ⟨_, c3, h3⟩
  | 4, _ => exact ⟨_, c4, h4⟩
  | 5, _ => exact ⟨_, c5, h5⟩
  | 6, _ => exact ⟨_, c6, h6⟩
  | 7, _ => exact ⟨_, c7, h7⟩
  | 8, _ => exact ⟨_, c8, h8⟩
  | j + 9, h => omega

set_option maxRecDepth 20000 in
set_option maxHeartbeats 4000000 in
theorem pl_go (at_ na nb A B y0 : Int) (kk : Nat) (s T U C : ByteArray) (w : World) (E : Env w)
    (hC : strOfNums [y0] = C)
    (hk : kk ≤ T.size) (hT : T.size ≤ 15) (hU : U.size ≤ 19) (hTU : T.size < U.size) (hs2 : s.size ≤ maxLen)
    (PK : ∀ w, Hid (Calls Tryd.prog 11 #[.int .i64 at_, .int .i64 (T.size + 1)] w fun e w' => e = .returned (.int .i64 kk) ∧ w = w'))
    (NE : ∀ w, Hid (Calls Tryd.prog 12 #[.int .i64 na, .int .i64 nb] w fun e w' => e = .returned (.agg #[.int .i64 A, .int .i64 B]) ∧ Below w.heap.size w w'))
    (FT : ∀ w, Hid (Calls Tryd.prog 14 #[.int .i64 A] w fun e w' => e = .returned (.tuple #[.string T, .int .i64 0]) ∧ Below w.heap.size w w'))
    (FU : ∀ w, Hid (Calls Tryd.prog 15 #[.agg #[.int .i64 A, .int .i64 B]] w fun e w' => e = .returned (.tuple #[.string U, .int .i64 0]) ∧ Below w.heap.size w w')) :
    Calls Tryd.prog 4 #[.string s, .agg #[.int .i64 na, .int .i64 nb], .int .i64 at_, .int .u8 y0] w fun e w' => e = .returned (.bool true) ∧ Below w.heap.size w w' := by
  unfold maxLen at hs2
  have EX := fun w E => Lib.hid (ex_any w E)
  have HE := Lib.hid E
  clear E
  have hCs : C.size = 1 := by rw [← hC, strOfNums_size]; rfl
  go_enter Tryd.func4, Tryd.ntmps4
  go_wp2_with fail
  have hb0 := (Below.refl w.heap.size w).alloc (Nat.le_refl _) (.cells #[.int .i64 na, .int .i64 nb] 23)
  have n0 : (w.alloc (.cells #[.int .i64 na, .int .i64 nb] 23)).cell? ⟨w.heap.size, 0, none⟩ = some (.int .i64 na) := by simp
  have n1 : (w.alloc (.cells #[.int .i64 na, .int .i64 nb] 23)).cell? ⟨w.heap.size, 1, none⟩ = some (.int .i64 nb) := by simp
  refine (EX _ (HE.out.stay hb0)).out.mono ?_
  rintro e w1 ⟨rfl, hb1⟩
  replace n0 := kc2 hb1 n0
  replace n1 := kc2 hb1 n1
  have h1 := hb0.trans (hb1.mono hb0.size)
  clear hb0 hb1
  go_wp2_with fail
  refine (NE _).out.mono ?_
  rintro e w2 ⟨rfl, hb2⟩
  have h2 := (h1.trans (hb2.mono h1.size))
  have h2a := h2.alloc h2.size (.cells #[.int .i64 A, .int .i64 B] 23)
  have p0 : (w2.alloc (.cells #[.int .i64 A, .int .i64 B] 23)).cell? ⟨w2.heap.size, 0, none⟩ = some (.int .i64 A) := by simp
  have p1 : (w2.alloc (.cells #[.int .i64 A, .int .i64 B] 23)).cell? ⟨w2.heap.size, 1, none⟩ = some (.int .i64 B) := by simp
  clear n0 n1 h1 hb2 h2
  go_wp2_with fail
  refine (FT _).out.mono ?_
  rintro e w3 ⟨rfl, hb3⟩
  replace p0 := kc2 hb3 p0
  replace p1 := kc2 hb3 p1
  have h3 := h2a.trans (hb3.mono h2a.size)
  clear h2a hb3
  go_wp2_with fail
  refine (FU _).out.mono ?_
  rintro e w4 ⟨rfl, hb4⟩
  have h4 := h3.trans (hb4.mono h3.size)
  clear h3 hb4 p0 p1
  go_wp2_with fail
  refine (PK _).out.mono ?_
  rintro e w5 ⟨rfl, rfl⟩
  have hcv := conv1 (w4.alloc (.cells #[.int .u8 y0] 5)) w4.heap.size y0 C hC (by simp)
  have h4a := h4.alloc h4.size (.cells #[.int .u8 y0] 5)
  clear NE FT FU PK EX hC
  go_wp2_with fail
  go_region
  go_wp2_with fail
  have hN := nine (((w4.alloc (.cells #[.int .u8 y0] 5)).alloc (.cells #[.string (s.extract 0 (min (↑s.size : Int) 100).toNat), .string T, .string U, .string (T.extract 0 kk ++ C ++ T.extract kk T.size), .string (T.extract 0 kk ++ C ++ T.extract (min ((kk : Int) + 1) ↑T.size).toNat T.size), .string (T.extract 0 kk ++ T.extract (min ((kk : Int) + 1) ↑T.size).toNat T.size), .string (U.extract 0 kk ++ C ++ U.extract kk U.size), .string (U.extract 0 kk ++ U.extract (kk + 1) U.size), .string (U ++ C)] 9)).drew) (w4.heap.size + 1) (s.extract 0 (min (↑s.size : Int) 100).toNat) T U (T.extract 0 kk ++ C ++ T.extract kk T.size) (T.extract 0 kk ++ C ++ T.extract (min ((kk : Int) + 1) ↑T.size).toNat T.size) (T.extract 0 kk ++ T.extract (min ((kk : Int) + 1) ↑T.size).toNat T.size) (U.extract 0 kk ++ C ++ U.extract kk U.size) (U.extract 0 kk ++ U.extract (kk + 1) U.size) (U ++ C) 200 (by simp only [ByteArray.size_extract]; omega) (by omega) (by omega) (by simp only [ByteArray.size_append, ByteArray.size_extract]; omega) (by simp only [ByteArray.size_append, ByteArray.size_extract]; omega) (by simp only [ByteArray.size_append, ByteArray.size_extract]; omega) (by simp only [ByteArray.size_append, ByteArray.size_extract]; omega) (by simp only [ByteArray.size_append, ByteArray.size_extract]; omega) (by simp only [ByteArray.size_append]; omega)
    (by simp) (by simp) (by simp) (by simp) (by simp) (by simp) (by simp) (by simp) (by simp)
  have h5 : Below w.heap.size w (((w4.alloc (.cells #[.int .u8 y0] 5)).alloc (.cells #[.string (s.extract 0 (min (↑s.size : Int) 100).toNat), .string T, .string U, .string (T.extract 0 kk ++ C ++ T.extract kk T.size), .string (T.extract 0 kk ++ C ++ T.extract (min ((kk : Int) + 1) ↑T.size).toNat T.size), .string (T.extract 0 kk ++ T.extract (min ((kk : Int) + 1) ↑T.size).toNat T.size), .string (U.extract 0 kk ++ C ++ U.extract kk U.size), .string (U.extract 0 kk ++ U.extract (kk + 1) U.size), .string (U ++ C)] 9)).drew) := (h4a.alloc h4a.size _).drew
  obtain ⟨W5, hW5⟩ : ∃ W, ((w4.alloc (.cells #[.int .u8 y0] 5)).alloc (.cells #[.string (s.extract 0 (min (↑s.size : Int) 100).toNat), .string T, .string U, .string (T.extract 0 kk ++ C ++ T.extract kk T.size), .string (T.extract 0 kk ++ C ++ T.extract (min ((kk : Int) + 1) ↑T.size).toNat T.size), .string (T.extract 0 kk ++ T.extract (min ((kk : Int) + 1) ↑T.size).toNat T.size), .string (U.extract 0 kk ++ C ++ U.extract kk U.size), .string (U.extract 0 kk ++ U.extract (kk + 1) U.size), .string (U ++ C)] 9)).drew = W := ⟨_, rfl⟩
  rw [hW5] at hN h5
  rw [hW5]
  obtain ⟨B, hBB⟩ : ∃ B, w4.heap.size + 1 = B := ⟨_, rfl⟩
  rw [hBB] at hN
  rw [hBB]
  clear hBB hW5 hcv h4 h4a
  have HN := Lib.hid hN
  have H5 := Lib.hid h5
  clear hN h5
  go_loopw [116] (fun iv wr => ∃ (k : Nat), k ≤ 9 ∧ iv = .int .i64 k ∧ Hid (Below W5.heap.size W5 wr)) (fun i _ => 9 - (intOf i).toNat)
  case atStart => exact ⟨0, by omega, rfl, Lib.hid (Below.refl _ _)⟩
  case round =>
    obtain ⟨k, hk9, rfl, hB⟩ := hrel
    by_cases h : k < 9
    · obtain ⟨y, hy, hys⟩ := HN.out k h
      have hyr := kc2 hB.out hy
      have hE : Hid (Env wr) := Lib.hid ((HE.out.stay H5.out).stay hB.out)
      have b1 : wr.heap.size ≤ wr.heap.size := Nat.le_refl _
      have F1 := fun w E => Lib.hid (parse_any y w (by omega) E)
      have F2 := fun w => Lib.hid (rparse_go y w (parseL y) (by omega) rfl)
      have F3 := fun w E => Lib.hid (pp_any y w (by omega) E)
      have F4 := fun w => Lib.hid (rpp_any y w (by omega))
      obtain ⟨pa, hpa⟩ : ∃ x, (parseL y).getD 0 = x := ⟨_, rfl⟩
      obtain ⟨pe, hpe⟩ : ∃ x : Int, (if (parseL y).isSome then 0 else 30) = x := ⟨_, rfl⟩
      obtain ⟨qa, hqa⟩ : ∃ x, ppA y = x := ⟨_, rfl⟩
      obtain ⟨qb, hqb⟩ : ∃ x, ppB y = x := ⟨_, rfl⟩
      obtain ⟨qe, hqe⟩ : ∃ x, ppE y = x := ⟨_, rfl⟩
      rw [hpa, hpe] at F1 F2
      rw [hqa, hqb, hqe] at F3 F4
      clear hpa hpe hqa hqb hqe hy HN HE b1
      have hB0 := hB.out
      clear hB
      go_wp2_with fail
      refine (F1 _ hE.out).out.mono ?_
      rintro e v1 ⟨rfl, hv1⟩
      have hE1 := Lib.hid (hE.out.stay hv1)
      have hB1 := hB0.trans (hv1.mono hB0.size)
      clear hv1 hE hB0 F1 hyr
      go_wp2_with fail
      refine (F2 _).out.mono ?_
      rintro e v2 ⟨rfl, hv2⟩
      have hE2 := Lib.hid (hE1.out.stay hv2)
      have hB2 := hB1.trans (hv2.mono hB1.size)
      clear hv2 hE1 hB1 F2
      go_wp2_with fail
      refine (F3 _ hE2.out).out.mono ?_
      rintro e v3 ⟨rfl, hv3⟩
      have hE3 := Lib.hid (hE2.out.stay hv3)
      have hB3 := hB2.trans (hv3.mono hB2.size)
      clear hv3 hE2 hB2 F3
      go_wp2_with fail
      have hB3a := hB3.alloc hB3.size (.cells #[.int .i64 qa, .int .i64 qb] 23)
      have p0 : (v3.alloc (.cells #[.int .i64 qa, .int .i64 qb] 23)).cell? ⟨v3.heap.size, 0, none⟩ = some (.int .i64 qa) := by simp
      have p1 : (v3.alloc (.cells #[.int .i64 qa, .int .i64 qb] 23)).cell? ⟨v3.heap.size, 1, none⟩ = some (.int .i64 qb) := by simp
      refine (F4 _).out.mono ?_
      rintro e v4 ⟨rfl, hv4⟩
      replace p0 := kc2 hv4 p0
      replace p1 := kc2 hv4 p1
      have p0a : (v4.alloc (.cells #[.int .i64 qa, .int .i64 qb] 23)).cell? ⟨v3.heap.size, 0, none⟩ = some (.int .i64 qa) := (World.cell?_alloc_some _ _ _ (by rw [p0]; rfl)).trans p0
      have p1a : (v4.alloc (.cells #[.int .i64 qa, .int .i64 qb] 23)).cell? ⟨v3.heap.size, 1, none⟩ = some (.int .i64 qb) := (World.cell?_alloc_some _ _ _ (by rw [p1]; rfl)).trans p1
      have hB4 := hB3a.trans (hv4.mono hB3a.size)
      have hB4a := hB4.alloc hB4.size (.cells #[.int .i64 qa, .int .i64 qb] 23)
      have HB := Lib.hid hB4a
      clear hE3 F4 hv4 hB3 hB3a hB4 hB4a
      go_wp2_with fail
      refine ⟨?_, ?measure⟩
      case measure => simp [intOf]; omega
      exact ⟨k + 1, by omega, by go_num, HB⟩
    · obtain rfl : k = 9 := by omega
      go_wp2_with fail
      go_ret
      exact ⟨rfl, H5.out.trans (hB.out.mono H5.out.size)⟩
end Go.Proofs.YtobcecnmeepjpaaDoor

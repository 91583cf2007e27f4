/- The contracts of Format and FormatPrefix. -/
import Derived.Test.YtobcecnmeepjpaaDoorParse
namespace Go.Proofs.YtobcecnmeepjpaaDoor
open Go.RowKit
set_option linter.unusedVariables false

theorem and_255 (y : Int) (h : 0 ≤ y) (h2 : y ≤ 4294967295) : bits .and .i64 y 255 = y % 256 := by
  have := and_mask y 24 (by decide) (by decide) h h2
  exact this

theorem set_other {w : World} {a b : Addr} (h : a ≠ b) (v : Value) : (w.setCell a v).cell? b = w.cell? b := World.cell?_setCell_other (h := h) ..
theorem set_same {w : World} {a : Addr} {u : Value} (h : w.cell? a = some u) (v : Value) : (w.setCell a v).cell? a = some v := World.cell?_setCell_same w a v h

/-- a number below 1000 in decimal digits -/
def dig3 (n : Nat) : List UInt8 :=
  if n < 10 then [UInt8.ofNat (48 + n)] else if n < 100 then [UInt8.ofNat (48 + n / 10), UInt8.ofNat (48 + n % 10)] else [UInt8.ofNat (48 + n / 100), UInt8.ofNat (48 + n / 10 % 10), UInt8.ofNat (48 + n % 10)]
theorem dec_small {n : Nat} (h : n < 10) : Lib.decDigits n = [UInt8.ofNat (48 + n)] := by rw [Lib.decDigits, dif_pos h]
theorem dec_big {n : Nat} (h : ¬ n < 10) : Lib.decDigits n = Lib.decDigits (n / 10) ++ [UInt8.ofNat (48 + n % 10)] := by rw [Lib.decDigits, dif_neg h]
theorem dec_dig3 (n : Nat) (h : n < 1000) : Lib.decDigits n = dig3 n := by
  unfold dig3
  by_cases h1 : n < 10
  · rw [if_pos h1, dec_small h1]
  · rw [if_neg h1, dec_big h1]
    by_cases h2 : n < 100
    · rw [if_pos h2, dec_small (by omega)]; rfl
    · rw [if_neg h2, dec_big (by omega), dec_small (by omega), Nat.div_div_eq_div_mul]; rfl
theorem itoa_dig3 (n : Int) (h : 0 ≤ n) (h2 : n < 1000) : Lib.itoa n = dig3 n.toNat := by
  unfold Lib.itoa
  rw [if_neg (by omega), dec_dig3 _ (by omega)]
theorem dig3_len (n : Nat) : 1 ≤ (dig3 n).length ∧ (dig3 n).length ≤ 3 := by unfold dig3; split; simp; split <;> simp
theorem itoa_len (n : Int) (h : 0 ≤ n) (h2 : n < 1000) : 1 ≤ (Lib.itoa n).length ∧ (Lib.itoa n).length ≤ 3 := by rw [itoa_dig3 n h h2]; exact dig3_len _
/-- the dotted form -/
def fmtL (a : Int) : List UInt8 := Lib.join [Lib.itoa (a / 16777216 % 256), Lib.itoa (a / 65536 % 256), Lib.itoa (a / 256 % 256), Lib.itoa (a % 256)] [46]
theorem join4 (a b c d sep : List UInt8) : Lib.join [a, b, c, d] sep = a ++ (sep ++ (b ++ (sep ++ (c ++ (sep ++ d))))) := by
  rw [Lib.join_cons]; simp [Lib.joinTail]

theorem hid_and {p q : Prop} (h : Hid (p ∧ q)) : p ∧ q := h

set_option maxRecDepth 20000 in
set_option maxHeartbeats 4000000 in
theorem fmt_any (a : Int) (w : World) (h : 0 ≤ a) (h2 : a ≤ 4294967295) (E : Env w) :
    Calls Tryd.prog 20 #[.int .i64 a] w fun e w' => e = .returned (.tuple #[.string ⟨(fmtL a).toArray⟩, .int .i64 0]) ∧ Below w.heap.size w w' := by
  unfold fmtL
  have V := Lib.hid (valid_any a · (by omega) (by omega))
  rw [show validZ a = true by simp [validZ, h, h2]] at V
  have I := fun n h0 h1 w E => Lib.hid (itoa_any n w h0 h1 E)
  obtain ⟨n0, hn0⟩ : ∃ n, a / 16777216 % 256 = n := ⟨_, rfl⟩
  have b0 : 0 ≤ n0 ∧ n0 ≤ 255 := by omega
  have o0 : bits .and .i64 (a / 16777216) 255 = n0 := by rw [and_255 _ (by omega) (by omega), hn0]
  obtain ⟨c0, hc0⟩ : ∃ c : ByteArray, ⟨(Lib.itoa n0).toArray⟩ = c := ⟨_, rfl⟩
  have I0 := fun w (E : Env w) => I n0 (by omega) (by omega) w E
  simp only [hc0] at I0
  obtain ⟨n1, hn1⟩ : ∃ n, a / 65536 % 256 = n := ⟨_, rfl⟩
  have b1 : 0 ≤ n1 ∧ n1 ≤ 255 := by omega
  have o1 : bits .and .i64 (a / 65536) 255 = n1 := by rw [and_255 _ (by omega) (by omega), hn1]
  obtain ⟨c1, hc1⟩ : ∃ c : ByteArray, ⟨(Lib.itoa n1).toArray⟩ = c := ⟨_, rfl⟩
  have I1 := fun w (E : Env w) => I n1 (by omega) (by omega) w E
  simp only [hc1] at I1
  obtain ⟨n2, hn2⟩ : ∃ n, a / 256 % 256 = n := ⟨_, rfl⟩
  have b2 : 0 ≤ n2 ∧ n2 ≤ 255 := by omega
  have o2 : bits .and .i64 (a / 256) 255 = n2 := by rw [and_255 _ (by omega) (by omega), hn2]
  obtain ⟨c2, hc2⟩ : ∃ c : ByteArray, ⟨(Lib.itoa n2).toArray⟩ = c := ⟨_, rfl⟩
  have I2 := fun w (E : Env w) => I n2 (by omega) (by omega) w E
  simp only [hc2] at I2
  obtain ⟨n3, hn3⟩ : ∃ n, a / 1 % 256 = n := ⟨_, rfl⟩
  have b3 : 0 ≤ n3 ∧ n3 ≤ 255 := by omega
  have o3 : bits .and .i64 (a / 1) 255 = n3 := by rw [and_255 _ (by omega) (by omega), hn3]
  obtain ⟨c3, hc3⟩ : ∃ c : ByteArray, ⟨(Lib.itoa n3).toArray⟩ = c := ⟨_, rfl⟩
  have I3 := fun w (E : Env w) => I n3 (by omega) (by omega) w E
  simp only [hc3] at I3
  simp only [Int.ediv_one] at o3 hn3
  have hB := (Below.refl w.heap.size w).alloc (Nat.le_refl _) (.cells #[.string ⟨#[]⟩, .string ⟨#[]⟩, .string ⟨#[]⟩, .string ⟨#[]⟩] 50)
  have HE := Lib.hid E
  have II0 := Lib.hid I0
  have O0 := Lib.hid o0
  have l0 := itoa_len n0 (by omega) (by omega)
  have C0 : c0.data.toList = Lib.itoa n0 := by rw [← hc0]
  rw [hn0]
  clear I0 hc0 hn0 b0 o0
  have II1 := Lib.hid I1
  have O1 := Lib.hid o1
  have l1 := itoa_len n1 (by omega) (by omega)
  have C1 : c1.data.toList = Lib.itoa n1 := by rw [← hc1]
  rw [hn1]
  clear I1 hc1 hn1 b1 o1
  have II2 := Lib.hid I2
  have O2 := Lib.hid o2
  have l2 := itoa_len n2 (by omega) (by omega)
  have C2 : c2.data.toList = Lib.itoa n2 := by rw [← hc2]
  rw [hn2]
  clear I2 hc2 hn2 b2 o2
  have II3 := Lib.hid I3
  have O3 := Lib.hid o3
  have l3 := itoa_len n3 (by omega) (by omega)
  have C3 : c3.data.toList = Lib.itoa n3 := by rw [← hc3]
  rw [hn3]
  clear I3 hc3 hn3 b3 o3
  have hlen : (Lib.join [Lib.itoa n0, Lib.itoa n1, Lib.itoa n2, Lib.itoa n3] [46]).length ≤ 140737488355328 := by
    rw [join4]; simp only [List.length_append, List.length_cons, List.length_nil]; omega
  obtain ⟨J, hJ⟩ : ∃ J, Lib.join [Lib.itoa n0, Lib.itoa n1, Lib.itoa n2, Lib.itoa n3] [46] = J := ⟨_, rfl⟩
  rw [hJ] at hlen ⊢
  have hJ2 : Lib.join ([c0, c1, c2, c3].map (·.data.toList)) (ByteArray.mk #[46]).data.toList = J := by simp only [List.map_cons, List.map_nil, C0, C1, C2, C3]; exact hJ
  have HJ := Lib.hid (And.intro hJ2 hlen)
  clear I E hlen hJ hJ2 l0 l1 l2 l3 C0 C1 C2 C3
  go_enter Tryd.func20, Tryd.ntmps20
  go_wp2_with fail
  refine (V.out _).mono ?_
  rintro e w' ⟨rfl, rfl⟩
  go_wp2_with fail
  go_loopw [9] (fun i wr => ∃ (k : Nat) (i0 : Int) (x0 x1 x2 x3 : ByteArray), k ≤ 4 ∧ i0 = k ∧ i = .int .i64 i0 ∧ wr.cell? ⟨w.heap.size, 0, none⟩ = some (.string x0) ∧ wr.cell? ⟨w.heap.size, 1, none⟩ = some (.string x1) ∧ wr.cell? ⟨w.heap.size, 2, none⟩ = some (.string x2) ∧ wr.cell? ⟨w.heap.size, 3, none⟩ = some (.string x3) ∧
    wr.frozen? ⟨w.heap.size, 0, none⟩ = false ∧ wr.frozen? ⟨w.heap.size, 1, none⟩ = false ∧ wr.frozen? ⟨w.heap.size, 2, none⟩ = false ∧ wr.frozen? ⟨w.heap.size, 3, none⟩ = false ∧
    Hid ((0 < k → x0 = c0) ∧ (1 < k → x1 = c1) ∧ (2 < k → x2 = c2) ∧ (3 < k → x3 = c3)) ∧ Below w.heap.size w wr) (fun i _ => 4 - (intOf i).toNat)
  case atStart => exact ⟨0, 0, ⟨#[]⟩, ⟨#[]⟩, ⟨#[]⟩, ⟨#[]⟩, by omega, rfl, rfl, by simp, by simp, by simp, by simp, by simp, by simp, by simp, by simp, Lib.hid ⟨fun h => by omega, fun h => by omega, fun h => by omega, fun h => by omega⟩, hB⟩
  case round =>
    clear hB
    obtain ⟨k, i0, x0, x1, x2, x3, hk, hi0, rfl, q0, q1, q2, q3, z0, z1, z2, z3, HX, hB⟩ := hrel
    have hk' : k = 0 ∨ k = 1 ∨ k = 2 ∨ k = 3 ∨ k = 4 := by omega
    have hlt : w.heap.size < wr.heap.size := World.block_lt_of_cell? _ _ q0
    rcases hk' with rfl | rfl | rfl | rfl | rfl
    · obtain rfl : i0 = 0 := by omega
      clear hi0 hk
      have Hc := II0.out _ (HE.out.stay hB)
      go_wp2_with fail
      rw [O0.out]
      refine Hc.out.mono ?_
      rintro e w2 ⟨rfl, hb2⟩
      have p0 := (hb2.cell (p := ⟨w.heap.size, 0, none⟩) hlt).trans q0
      have p1 := (hb2.cell (p := ⟨w.heap.size, 1, none⟩) hlt).trans q1
      have p2 := (hb2.cell (p := ⟨w.heap.size, 2, none⟩) hlt).trans q2
      have p3 := (hb2.cell (p := ⟨w.heap.size, 3, none⟩) hlt).trans q3
      have y0 := (hb2.frozen (p := ⟨w.heap.size, 0, none⟩) hlt).trans z0
      have y1 := (hb2.frozen (p := ⟨w.heap.size, 1, none⟩) hlt).trans z1
      have y2 := (hb2.frozen (p := ⟨w.heap.size, 2, none⟩) hlt).trans z2
      have y3 := (hb2.frozen (p := ⟨w.heap.size, 3, none⟩) hlt).trans z3
      have hB2 := hB.trans (hb2.mono hB.size)
      have hlt2 : w.heap.size < w2.heap.size := World.block_lt_of_cell? _ _ p0
      clear q0 q1 q2 q3 z0 z1 z2 z3 hb2 hB Hc
      go_wp2_with fail
      go_round
      case rel => exact ⟨1, 1, c0, x1, x2, x3, by omega, by rfl, by go_num, set_same p0 _, (set_other (by simp) _).trans p1, (set_other (by simp) _).trans p2, (set_other (by simp) _).trans p3, (World.frozen?_setCell ..).trans y0, (World.frozen?_setCell ..).trans y1, (World.frozen?_setCell ..).trans y2, (World.frozen?_setCell ..).trans y3, Lib.hid (by obtain ⟨e0, e1, e2, e3⟩ := HX.out; refine ⟨fun h => ?_, fun h => ?_, fun h => ?_, fun h => ?_⟩ <;> first | rfl | exact e0 (by omega) | exact e1 (by omega) | exact e2 (by omega) | exact e3 (by omega) | omega), hB2.setCell (Nat.le_refl _) _⟩
      case measure => simp [intOf]
    · obtain rfl : i0 = 1 := by omega
      clear hi0 hk
      have Hc := II1.out _ (HE.out.stay hB)
      go_wp2_with fail
      rw [O1.out]
      refine Hc.out.mono ?_
      rintro e w2 ⟨rfl, hb2⟩
      have p0 := (hb2.cell (p := ⟨w.heap.size, 0, none⟩) hlt).trans q0
      have p1 := (hb2.cell (p := ⟨w.heap.size, 1, none⟩) hlt).trans q1
      have p2 := (hb2.cell (p := ⟨w.heap.size, 2, none⟩) hlt).trans q2
      have p3 := (hb2.cell (p := ⟨w.heap.size, 3, none⟩) hlt).trans q3
      have y0 := (hb2.frozen (p := ⟨w.heap.size, 0, none⟩) hlt).trans z0
      have y1 := (hb2.frozen (p := ⟨w.heap.size, 1, none⟩) hlt).trans z1
      have y2 := (hb2.frozen (p := ⟨w.heap.size, 2, none⟩) hlt).trans z2
      have y3 := (hb2.frozen (p := ⟨w.heap.size, 3, none⟩) hlt).trans z3
      have hB2 := hB.trans (hb2.mono hB.size)
      have hlt2 : w.heap.size < w2.heap.size := World.block_lt_of_cell? _ _ p0
      clear q0 q1 q2 q3 z0 z1 z2 z3 hb2 hB Hc
      go_wp2_with fail
      go_round
      case rel => exact ⟨2, 2, x0, c1, x2, x3, by omega, by rfl, by go_num, (set_other (by simp) _).trans p0, set_same p1 _, (set_other (by simp) _).trans p2, (set_other (by simp) _).trans p3, (World.frozen?_setCell ..).trans y0, (World.frozen?_setCell ..).trans y1, (World.frozen?_setCell ..).trans y2, (World.frozen?_setCell ..).trans y3, Lib.hid (by obtain ⟨e0, e1, e2, e3⟩ := HX.out; refine ⟨fun h => ?_, fun h => ?_, fun h => ?_, fun h => ?_⟩ <;> first | rfl | exact e0 (by omega) | exact e1 (by omega) | exact e2 (by omega) | exact e3 (by omega) | omega), hB2.setCell (Nat.le_refl _) _⟩
      case measure => simp [intOf]
    · obtain rfl : i0 = 2 := by omega
      clear hi0 hk
      have Hc := II2.out _ (HE.out.stay hB)
      go_wp2_with fail
      rw [O2.out]
      refine Hc.out.mono ?_
      rintro e w2 ⟨rfl, hb2⟩
      have p0 := (hb2.cell (p := ⟨w.heap.size, 0, none⟩) hlt).trans q0
      have p1 := (hb2.cell (p := ⟨w.heap.size, 1, none⟩) hlt).trans q1
      have p2 := (hb2.cell (p := ⟨w.heap.size, 2, none⟩) hlt).trans q2
      have p3 := (hb2.cell (p := ⟨w.heap.size, 3, none⟩) hlt).trans q3
      have y0 := (hb2.frozen (p := ⟨w.heap.size, 0, none⟩) hlt).trans z0
      have y1 := (hb2.frozen (p := ⟨w.heap.size, 1, none⟩) hlt).trans z1
      have y2 := (hb2.frozen (p := ⟨w.heap.size, 2, none⟩) hlt).trans z2
      have y3 := (hb2.frozen (p := ⟨w.heap.size, 3, none⟩) hlt).trans z3
      have hB2 := hB.trans (hb2.mono hB.size)
      have hlt2 : w.heap.size < w2.heap.size := World.block_lt_of_cell? _ _ p0
      clear q0 q1 q2 q3 z0 z1 z2 z3 hb2 hB Hc
      go_wp2_with fail
      go_round
      case rel => exact ⟨3, 3, x0, x1, c2, x3, by omega, by rfl, by go_num, (set_other (by simp) _).trans p0, (set_other (by simp) _).trans p1, set_same p2 _, (set_other (by simp) _).trans p3, (World.frozen?_setCell ..).trans y0, (World.frozen?_setCell ..).trans y1, (World.frozen?_setCell ..).trans y2, (World.frozen?_setCell ..).trans y3, Lib.hid (by obtain ⟨e0, e1, e2, e3⟩ := HX.out; refine ⟨fun h => ?_, fun h => ?_, fun h => ?_, fun h => ?_⟩ <;> first | rfl | exact e0 (by omega) | exact e1 (by omega) | exact e2 (by omega) | exact e3 (by omega) | omega), hB2.setCell (Nat.le_refl _) _⟩
      case measure => simp [intOf]
    · obtain rfl : i0 = 3 := by omega
      clear hi0 hk
      have Hc := II3.out _ (HE.out.stay hB)
      go_wp2_with fail
      rw [O3.out]
      refine Hc.out.mono ?_
      rintro e w2 ⟨rfl, hb2⟩
      have p0 := (hb2.cell (p := ⟨w.heap.size, 0, none⟩) hlt).trans q0
      have p1 := (hb2.cell (p := ⟨w.heap.size, 1, none⟩) hlt).trans q1
      have p2 := (hb2.cell (p := ⟨w.heap.size, 2, none⟩) hlt).trans q2
      have p3 := (hb2.cell (p := ⟨w.heap.size, 3, none⟩) hlt).trans q3
      have y0 := (hb2.frozen (p := ⟨w.heap.size, 0, none⟩) hlt).trans z0
      have y1 := (hb2.frozen (p := ⟨w.heap.size, 1, none⟩) hlt).trans z1
      have y2 := (hb2.frozen (p := ⟨w.heap.size, 2, none⟩) hlt).trans z2
      have y3 := (hb2.frozen (p := ⟨w.heap.size, 3, none⟩) hlt).trans z3
      have hB2 := hB.trans (hb2.mono hB.size)
      have hlt2 : w.heap.size < w2.heap.size := World.block_lt_of_cell? _ _ p0
      clear q0 q1 q2 q3 z0 z1 z2 z3 hb2 hB Hc
      go_wp2_with fail
      go_round
      case rel => exact ⟨4, 4, x0, x1, x2, c3, by omega, by rfl, by go_num, (set_other (by simp) _).trans p0, (set_other (by simp) _).trans p1, (set_other (by simp) _).trans p2, set_same p3 _, (World.frozen?_setCell ..).trans y0, (World.frozen?_setCell ..).trans y1, (World.frozen?_setCell ..).trans y2, (World.frozen?_setCell ..).trans y3, Lib.hid (by obtain ⟨e0, e1, e2, e3⟩ := HX.out; refine ⟨fun h => ?_, fun h => ?_, fun h => ?_, fun h => ?_⟩ <;> first | rfl | exact e0 (by omega) | exact e1 (by omega) | exact e2 (by omega) | exact e3 (by omega) | omega), hB2.setCell (Nat.le_refl _) _⟩
      case measure => simp [intOf]
    · obtain rfl : i0 = 4 := by omega
      clear hi0 hk
      obtain ⟨e0, e1, e2, e3⟩ := HX.out
      obtain rfl := e0 (by omega)
      obtain rfl := e1 (by omega)
      obtain rfl := e2 (by omega)
      obtain rfl := e3 (by omega)
      have Jc := Tryd.strings_Join w.heap.size 0 4 [x0, x1, x2, x3] ⟨#[46]⟩ wr (fun j x hj => by
        rcases j with _ | _ | _ | _ | j
        · simp at hj; rw [← hj]; exact q0
        · simp at hj; rw [← hj]; exact q1
        · simp at hj; rw [← hj]; exact q2
        · simp at hj; rw [← hj]; exact q3
        · simp at hj) hlt (by simp) (by simp) (by rw [HJ.out.1]; exact HJ.out.2)
      rw [HJ.out.1] at Jc
      have JC := Lib.hid Jc
      clear Jc
      go_wp2_with fail
      refine JC.out.mono ?_
      rintro e w2 ⟨rfl, hb2⟩
      go_wp2_with fail
      go_ret2
      exact ⟨rfl, hB.trans (hb2.mono hB.size)⟩
end Go.Proofs.YtobcecnmeepjpaaDoor

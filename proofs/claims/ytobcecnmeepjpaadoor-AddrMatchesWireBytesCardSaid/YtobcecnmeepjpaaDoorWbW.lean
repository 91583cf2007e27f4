/- The walk of AddrMatchesWireBytes. -/
import Derived.Test.YtobcecnmeepjpaaDoorDig
import Derived.Test.YtobcecnmeepjpaaDoorWGet
namespace Go.Proofs.YtobcecnmeepjpaaDoor
open Go.RowKit
set_option linter.unusedVariables false

theorem cnew (w : World) (x : Int) : (w.alloc (.cells #[.int .u8 x] 5)).cell? ⟨w.heap.size, 0, none⟩ = some (.int .u8 x) := by simp
theorem itoa_sm (m : Int) (h : 0 ≤ m) (h2 : m < 10) : (strOfNums [48 + m]).data.toList = Lib.itoa m := by rw [itoa_small m h h2]
theorem itoa_b2 (n : Int) (h : 10 ≤ n) (h2 : n < 100) : (strOfNums [48 + n / 10 % 10]).data.toList ++ (strOfNums [48 + n % 10]).data.toList = Lib.itoa n := by
  rw [itoa_sm _ (by omega) (by omega), itoa_sm _ (by omega) (by omega), itoa_step n h, show n / 10 % 10 = n / 10 by omega]
theorem itoa_b3 (n : Int) (h : 100 ≤ n) (h2 : n < 1000) : (strOfNums [48 + n / 100]).data.toList ++ ((strOfNums [48 + n / 10 % 10]).data.toList ++ (strOfNums [48 + n % 10]).data.toList) = Lib.itoa n := by
  rw [itoa_sm _ (by omega) (by omega), itoa_sm _ (by omega) (by omega), itoa_sm _ (by omega) (by omega), itoa_step n (by omega), itoa_step (n / 10) (by omega), show n / 10 / 10 = n / 100 by omega, List.append_assoc]
def preL (n0 n1 n2 n3 : Int) : Nat → List UInt8
  | 0 => []
  | 1 => Lib.itoa n0
  | 2 => Lib.itoa n0 ++ 46 :: Lib.itoa n1
  | 3 => Lib.itoa n0 ++ 46 :: (Lib.itoa n1 ++ 46 :: Lib.itoa n2)
  | _ => Lib.itoa n0 ++ 46 :: (Lib.itoa n1 ++ 46 :: (Lib.itoa n2 ++ 46 :: Lib.itoa n3))

set_option maxRecDepth 20000 in
set_option maxHeartbeats 8000000 in
theorem wb_go (a x n0 n1 n2 n3 : Int) (sA T : ByteArray) (w : World) (E : Env w)
    (PX : ∀ w, Hid (Calls Tryd.prog 11 #[.int .i64 a, .int .i64 4294967296] w fun e w' => e = .returned (.int .i64 x) ∧ w = w'))
    (PU : ∀ w, Hid (Calls Tryd.prog 25 #[.int .i64 x, .int .i64 4] w fun e w' => e = .returned (.tuple #[.string sA, .int .i64 0]) ∧ Below w.heap.size w w'))
    (FX : ∀ w, Env w → Hid (Calls Tryd.prog 20 #[.int .i64 x] w fun e w' => e = .returned (.tuple #[.string T, .int .i64 0]) ∧ Below w.heap.size w w'))
    (G0 : ∀ w, Hid (Calls Tryd.prog 26 #[.string sA, .int .i64 0, .int .i64 1] w fun e w' => e = .returned (.tuple #[.int .i64 n0, .int .i64 0]) ∧ Below w.heap.size w w')) (c0 : 0 ≤ n0 ∧ n0 ≤ 255)
    (G1 : ∀ w, Hid (Calls Tryd.prog 26 #[.string sA, .int .i64 1, .int .i64 1] w fun e w' => e = .returned (.tuple #[.int .i64 n1, .int .i64 0]) ∧ Below w.heap.size w w')) (c1 : 0 ≤ n1 ∧ n1 ≤ 255)
    (G2 : ∀ w, Hid (Calls Tryd.prog 26 #[.string sA, .int .i64 2, .int .i64 1] w fun e w' => e = .returned (.tuple #[.int .i64 n2, .int .i64 0]) ∧ Below w.heap.size w w')) (c2 : 0 ≤ n2 ∧ n2 ≤ 255)
    (G3 : ∀ w, Hid (Calls Tryd.prog 26 #[.string sA, .int .i64 3, .int .i64 1] w fun e w' => e = .returned (.tuple #[.int .i64 n3, .int .i64 0]) ∧ Below w.heap.size w w')) (c3 : 0 ≤ n3 ∧ n3 ≤ 255)
    (hT : T.data.toList = preL n0 n1 n2 n3 4)
    (PA : ∀ w, Env w → Hid (Calls Tryd.prog 16 #[.string T] w fun e w' => e = .returned (.tuple #[.int .i64 x, .int .i64 0]) ∧ Below w.heap.size w w')) :
    Calls Tryd.prog 9 #[.int .i64 a] w fun e w' => e = .returned (.bool true) ∧ Below w.heap.size w w' := by
  have EX := fun w E => Lib.hid (ex_any w E)
  have HE := Lib.hid E
  clear E
  go_enter Tryd.func9, Tryd.ntmps9
  go_wp2_with fail
  refine (EX _ HE.out).out.mono ?_
  rintro e w1 ⟨rfl, hb1⟩
  go_wp2_with fail
  refine (PX _).out.mono ?_
  rintro e w2 ⟨rfl, rfl⟩
  go_wp2_with fail
  refine (PU _).out.mono ?_
  rintro e w2 ⟨rfl, hb2⟩
  replace hb2 := hb1.trans (hb2.mono hb1.size)
  clear hb1
  go_wp2_with fail
  refine (FX _ (HE.out.stay hb2)).out.mono ?_
  rintro e w3 ⟨rfl, hb3⟩
  replace hb3 := hb2.trans (hb3.mono hb2.size)
  clear hb2
  go_wp2_with fail
  go_loopw [9, 10] (fun wt i wr => ∃ (k : Nat) (i0 : Int) (W : ByteArray), k ≤ 4 ∧ i0 = k ∧ i = .int .i64 i0 ∧ wt = .string W ∧ Hid (W.data.toList = preL n0 n1 n2 n3 k) ∧ W.size ≤ 4 * k ∧ Below w.heap.size w wr) (fun _ i _ => 4 - (intOf i).toNat)
  case atStart => exact ⟨0, 0, ⟨#[]⟩, by omega, rfl, rfl, rfl, Lib.hid rfl, by decide, hb3⟩
  case round =>
    clear hb3 PX PU FX EX
    obtain ⟨k, i0, W, hk, hi0, rfl, rfl, HW, hsW, hB⟩ := hrel
    have hk' : k = 0 ∨ k = 1 ∨ k = 2 ∨ k = 3 ∨ k = 4 := by omega
    rcases hk' with rfl | rfl | rfl | rfl | rfl
    · obtain rfl : i0 = 0 := by omega
      clear hi0 hk
      rcases Int.lt_or_le n0 10 with d | d
      · skip
        have HW1 := HW.out
        obtain ⟨b0, hb0⟩ : ∃ b, strOfNums [48 + n0 % 10] = b := ⟨_, rfl⟩
        have y0 : b0.size = 1 := by rw [← hb0, strOfNums_size]; rfl
        have hlist : b0.data.toList = Lib.itoa n0 := by
          rw [← hb0, show n0 % 10 = n0 by omega]; exact itoa_sm n0 (by omega) (by omega)
        have zz0 : (W ++ b0).size = W.size + b0.size := ByteArray.size_append
        obtain ⟨V0, hV0⟩ : ∃ U, W ++ b0 = U := ⟨_, rfl⟩
        rw [hV0] at zz0
        have ll0 : V0.data.toList = W.data.toList ++ b0.data.toList := by rw [← hV0, ByteArray.data_append]; simp
        have HF : Hid (V0.data.toList = preL n0 n1 n2 n3 1) := Lib.hid (by
          rw [ll0, HW1]
          simp only [hlist]
          simp [preL])
        have hsz : V0.size ≤ 4 := by omega
        clear HW1 hlist ll0
        have hr1 := y0
        go_wp2_with fail
        refine (G0 _).out.mono ?_
        rintro e w2 ⟨rfl, hb⟩
        have hB2 := hB.trans (hb.mono hB.size)
        clear hb hB
        have hc0 := conv1 (w2.alloc (.cells #[.int .u8 (48 + n0 % 10)] 5)) (w2.heap.size) (48 + n0 % 10) b0 hb0 (by exact cnew _ _)
        clear hb0
        have hB3 : Below w.heap.size w (w2.alloc (.cells #[.int .u8 (48 + n0 % 10)] 5)) := by
          have q0 := hB2.alloc hB2.size (.cells #[.int .u8 (48 + n0 % 10)] 5)
          exact q0
        go_wp2_with fail
        go_round
        case rel => exact ⟨1, 1, V0, by omega, by rfl, by go_num, rfl, HF, hsz, hB3⟩
        case measure => simp [intOf]
      rcases Int.lt_or_le n0 100 with d2 | d2
      · skip
        have HW1 := HW.out
        obtain ⟨b0, hb0⟩ : ∃ b, strOfNums [48 + n0 / 10 % 10] = b := ⟨_, rfl⟩
        have y0 : b0.size = 1 := by rw [← hb0, strOfNums_size]; rfl
        obtain ⟨b1, hb1⟩ : ∃ b, strOfNums [48 + n0 % 10] = b := ⟨_, rfl⟩
        have y1 : b1.size = 1 := by rw [← hb1, strOfNums_size]; rfl
        have hlist : (b0.data.toList ++ b1.data.toList) = Lib.itoa n0 := by
          rw [← hb0, ← hb1]; exact itoa_b2 n0 (by omega) (by omega)
        have zz0 : (W ++ b0).size = W.size + b0.size := ByteArray.size_append
        obtain ⟨V0, hV0⟩ : ∃ U, W ++ b0 = U := ⟨_, rfl⟩
        rw [hV0] at zz0
        have ll0 : V0.data.toList = W.data.toList ++ b0.data.toList := by rw [← hV0, ByteArray.data_append]; simp
        have zz1 : (V0 ++ b1).size = V0.size + b1.size := ByteArray.size_append
        obtain ⟨V1, hV1⟩ : ∃ U, V0 ++ b1 = U := ⟨_, rfl⟩
        rw [hV1] at zz1
        have ll1 : V1.data.toList = V0.data.toList ++ b1.data.toList := by rw [← hV1, ByteArray.data_append]; simp
        have HF : Hid (V1.data.toList = preL n0 n1 n2 n3 1) := Lib.hid (by
          rw [ll1, ll0, HW1]
          simp only [List.append_assoc, hlist]
          simp [preL])
        have hsz : V1.size ≤ 4 := by omega
        clear HW1 hlist ll0 ll1
        have hr1 := y0
        go_wp2_with fail
        refine (G0 _).out.mono ?_
        rintro e w2 ⟨rfl, hb⟩
        have hB2 := hB.trans (hb.mono hB.size)
        clear hb hB
        have hc0 := conv1 (w2.alloc (.cells #[.int .u8 (48 + n0 / 10 % 10)] 5)) (w2.heap.size) (48 + n0 / 10 % 10) b0 hb0 (by exact cnew _ _)
        have hc1 := conv1 ((w2.alloc (.cells #[.int .u8 (48 + n0 / 10 % 10)] 5)).alloc (.cells #[.int .u8 (48 + n0 % 10)] 5)) (w2.heap.size + 1) (48 + n0 % 10) b1 hb1 (by rw [show w2.heap.size + 1 = (w2.alloc (.cells #[.int .u8 (48 + n0 / 10 % 10)] 5)).heap.size by simp]; exact cnew _ _)
        clear hb0
        clear hb1
        have hB3 : Below w.heap.size w ((w2.alloc (.cells #[.int .u8 (48 + n0 / 10 % 10)] 5)).alloc (.cells #[.int .u8 (48 + n0 % 10)] 5)) := by
          have q0 := hB2.alloc hB2.size (.cells #[.int .u8 (48 + n0 / 10 % 10)] 5)
          have q1 := q0.alloc q0.size (.cells #[.int .u8 (48 + n0 % 10)] 5)
          exact q1
        go_wp2_with fail
        go_round
        case rel => exact ⟨1, 1, V1, by omega, by rfl, by go_num, rfl, HF, hsz, hB3⟩
        case measure => simp [intOf]
      have HW1 := HW.out
      obtain ⟨b0, hb0⟩ : ∃ b, strOfNums [48 + n0 / 100] = b := ⟨_, rfl⟩
      have y0 : b0.size = 1 := by rw [← hb0, strOfNums_size]; rfl
      obtain ⟨b1, hb1⟩ : ∃ b, strOfNums [48 + n0 / 10 % 10] = b := ⟨_, rfl⟩
      have y1 : b1.size = 1 := by rw [← hb1, strOfNums_size]; rfl
      obtain ⟨b2, hb2⟩ : ∃ b, strOfNums [48 + n0 % 10] = b := ⟨_, rfl⟩
      have y2 : b2.size = 1 := by rw [← hb2, strOfNums_size]; rfl
      have hlist : (b0.data.toList ++ (b1.data.toList ++ b2.data.toList)) = Lib.itoa n0 := by
        rw [← hb0, ← hb1, ← hb2]; exact itoa_b3 n0 (by omega) (by omega)
      have zz0 : (W ++ b0).size = W.size + b0.size := ByteArray.size_append
      obtain ⟨V0, hV0⟩ : ∃ U, W ++ b0 = U := ⟨_, rfl⟩
      rw [hV0] at zz0
      have ll0 : V0.data.toList = W.data.toList ++ b0.data.toList := by rw [← hV0, ByteArray.data_append]; simp
      have zz1 : (V0 ++ b1).size = V0.size + b1.size := ByteArray.size_append
      obtain ⟨V1, hV1⟩ : ∃ U, V0 ++ b1 = U := ⟨_, rfl⟩
      rw [hV1] at zz1
      have ll1 : V1.data.toList = V0.data.toList ++ b1.data.toList := by rw [← hV1, ByteArray.data_append]; simp
      have zz2 : (V1 ++ b2).size = V1.size + b2.size := ByteArray.size_append
      obtain ⟨V2, hV2⟩ : ∃ U, V1 ++ b2 = U := ⟨_, rfl⟩
      rw [hV2] at zz2
      have ll2 : V2.data.toList = V1.data.toList ++ b2.data.toList := by rw [← hV2, ByteArray.data_append]; simp
      have HF : Hid (V2.data.toList = preL n0 n1 n2 n3 1) := Lib.hid (by
        rw [ll2, ll1, ll0, HW1]
        simp only [List.append_assoc, hlist]
        simp [preL])
      have hsz : V2.size ≤ 4 := by omega
      clear HW1 hlist ll0 ll1 ll2
      have hr1 := y0
      go_wp2_with fail
      refine (G0 _).out.mono ?_
      rintro e w2 ⟨rfl, hb⟩
      have hB2 := hB.trans (hb.mono hB.size)
      clear hb hB
      have hc0 := conv1 (w2.alloc (.cells #[.int .u8 (48 + n0 / 100)] 5)) (w2.heap.size) (48 + n0 / 100) b0 hb0 (by exact cnew _ _)
      have hc1 := conv1 ((w2.alloc (.cells #[.int .u8 (48 + n0 / 100)] 5)).alloc (.cells #[.int .u8 (48 + n0 / 10 % 10)] 5)) (w2.heap.size + 1) (48 + n0 / 10 % 10) b1 hb1 (by rw [show w2.heap.size + 1 = (w2.alloc (.cells #[.int .u8 (48 + n0 / 100)] 5)).heap.size by simp]; exact cnew _ _)
      have hc2 := conv1 (((w2.alloc (.cells #[.int .u8 (48 + n0 / 100)] 5)).alloc (.cells #[.int .u8 (48 + n0 / 10 % 10)] 5)).alloc (.cells #[.int .u8 (48 + n0 % 10)] 5)) (w2.heap.size + 1 + 1) (48 + n0 % 10) b2 hb2 (by rw [show w2.heap.size + 1 + 1 = ((w2.alloc (.cells #[.int .u8 (48 + n0 / 100)] 5)).alloc (.cells #[.int .u8 (48 + n0 / 10 % 10)] 5)).heap.size by simp]; exact cnew _ _)
      clear hb0
      clear hb1
      clear hb2
      have hB3 : Below w.heap.size w (((w2.alloc (.cells #[.int .u8 (48 + n0 / 100)] 5)).alloc (.cells #[.int .u8 (48 + n0 / 10 % 10)] 5)).alloc (.cells #[.int .u8 (48 + n0 % 10)] 5)) := by
        have q0 := hB2.alloc hB2.size (.cells #[.int .u8 (48 + n0 / 100)] 5)
        have q1 := q0.alloc q0.size (.cells #[.int .u8 (48 + n0 / 10 % 10)] 5)
        have q2 := q1.alloc q1.size (.cells #[.int .u8 (48 + n0 % 10)] 5)
        exact q2
      go_wp2_with fail
      go_round
      case rel => exact ⟨1, 1, V2, by omega, by rfl, by go_num, rfl, HF, hsz, hB3⟩
      case measure => simp [intOf]
    · obtain rfl : i0 = 1 := by omega
      clear hi0 hk
      rcases Int.lt_or_le n1 10 with d | d
      · skip
        have HW1 := HW.out
        obtain ⟨b0, hb0⟩ : ∃ b, strOfNums [48 + n1 % 10] = b := ⟨_, rfl⟩
        have y0 : b0.size = 1 := by rw [← hb0, strOfNums_size]; rfl
        have hlist : b0.data.toList = Lib.itoa n1 := by
          rw [← hb0, show n1 % 10 = n1 by omega]; exact itoa_sm n1 (by omega) (by omega)
        have z0 : (W ++ ⟨#[46]⟩).size = W.size + 1 := by rw [ByteArray.size_append]; rfl
        obtain ⟨U0, hU0⟩ : ∃ U, W ++ ⟨#[46]⟩ = U := ⟨_, rfl⟩
        rw [hU0] at z0
        have l0 : U0.data.toList = W.data.toList ++ [46] := by rw [← hU0, ByteArray.data_append]; simp
        have zz0 : (U0 ++ b0).size = U0.size + b0.size := ByteArray.size_append
        obtain ⟨V0, hV0⟩ : ∃ U, U0 ++ b0 = U := ⟨_, rfl⟩
        rw [hV0] at zz0
        have ll0 : V0.data.toList = U0.data.toList ++ b0.data.toList := by rw [← hV0, ByteArray.data_append]; simp
        have HF : Hid (V0.data.toList = preL n0 n1 n2 n3 2) := Lib.hid (by
          rw [ll0, l0, HW1]
          simp only [List.append_assoc, hlist]
          simp [preL])
        have hsz : V0.size ≤ 8 := by omega
        clear HW1 hlist ll0 l0
        have hr1 := y0
        go_wp2_with fail
        refine (G1 _).out.mono ?_
        rintro e w2 ⟨rfl, hb⟩
        have hB2 := hB.trans (hb.mono hB.size)
        clear hb hB
        have hc0 := conv1 (w2.alloc (.cells #[.int .u8 (48 + n1 % 10)] 5)) (w2.heap.size) (48 + n1 % 10) b0 hb0 (by exact cnew _ _)
        clear hb0
        have hB3 : Below w.heap.size w (w2.alloc (.cells #[.int .u8 (48 + n1 % 10)] 5)) := by
          have q0 := hB2.alloc hB2.size (.cells #[.int .u8 (48 + n1 % 10)] 5)
          exact q0
        go_wp2_with fail
        go_round
        case rel => exact ⟨2, 2, V0, by omega, by rfl, by go_num, rfl, HF, hsz, hB3⟩
        case measure => simp [intOf]
      rcases Int.lt_or_le n1 100 with d2 | d2
      · skip
        have HW1 := HW.out
        obtain ⟨b0, hb0⟩ : ∃ b, strOfNums [48 + n1 / 10 % 10] = b := ⟨_, rfl⟩
        have y0 : b0.size = 1 := by rw [← hb0, strOfNums_size]; rfl
        obtain ⟨b1, hb1⟩ : ∃ b, strOfNums [48 + n1 % 10] = b := ⟨_, rfl⟩
        have y1 : b1.size = 1 := by rw [← hb1, strOfNums_size]; rfl
        have hlist : (b0.data.toList ++ b1.data.toList) = Lib.itoa n1 := by
          rw [← hb0, ← hb1]; exact itoa_b2 n1 (by omega) (by omega)
        have z0 : (W ++ ⟨#[46]⟩).size = W.size + 1 := by rw [ByteArray.size_append]; rfl
        obtain ⟨U0, hU0⟩ : ∃ U, W ++ ⟨#[46]⟩ = U := ⟨_, rfl⟩
        rw [hU0] at z0
        have l0 : U0.data.toList = W.data.toList ++ [46] := by rw [← hU0, ByteArray.data_append]; simp
        have zz0 : (U0 ++ b0).size = U0.size + b0.size := ByteArray.size_append
        obtain ⟨V0, hV0⟩ : ∃ U, U0 ++ b0 = U := ⟨_, rfl⟩
        rw [hV0] at zz0
        have ll0 : V0.data.toList = U0.data.toList ++ b0.data.toList := by rw [← hV0, ByteArray.data_append]; simp
        have zz1 : (V0 ++ b1).size = V0.size + b1.size := ByteArray.size_append
        obtain ⟨V1, hV1⟩ : ∃ U, V0 ++ b1 = U := ⟨_, rfl⟩
        rw [hV1] at zz1
        have ll1 : V1.data.toList = V0.data.toList ++ b1.data.toList := by rw [← hV1, ByteArray.data_append]; simp
        have HF : Hid (V1.data.toList = preL n0 n1 n2 n3 2) := Lib.hid (by
          rw [ll1, ll0, l0, HW1]
          simp only [List.append_assoc, hlist]
          simp [preL])
        have hsz : V1.size ≤ 8 := by omega
        clear HW1 hlist ll0 ll1 l0
        have hr1 := y0
        go_wp2_with fail
        refine (G1 _).out.mono ?_
        rintro e w2 ⟨rfl, hb⟩
        have hB2 := hB.trans (hb.mono hB.size)
        clear hb hB
        have hc0 := conv1 (w2.alloc (.cells #[.int .u8 (48 + n1 / 10 % 10)] 5)) (w2.heap.size) (48 + n1 / 10 % 10) b0 hb0 (by exact cnew _ _)
        have hc1 := conv1 ((w2.alloc (.cells #[.int .u8 (48 + n1 / 10 % 10)] 5)).alloc (.cells #[.int .u8 (48 + n1 % 10)] 5)) (w2.heap.size + 1) (48 + n1 % 10) b1 hb1 (by rw [show w2.heap.size + 1 = (w2.alloc (.cells #[.int .u8 (48 + n1 / 10 % 10)] 5)).heap.size by simp]; exact cnew _ _)
        clear hb0
        clear hb1
        have hB3 : Below w.heap.size w ((w2.alloc (.cells #[.int .u8 (48 + n1 / 10 % 10)] 5)).alloc (.cells #[.int .u8 (48 + n1 % 10)] 5)) := by
          have q0 := hB2.alloc hB2.size (.cells #[.int .u8 (48 + n1 / 10 % 10)] 5)
          have q1 := q0.alloc q0.size (.cells #[.int .u8 (48 + n1 % 10)] 5)
          exact q1
        go_wp2_with fail
        go_round
        case rel => exact ⟨2, 2, V1, by omega, by rfl, by go_num, rfl, HF, hsz, hB3⟩
        case measure => simp [intOf]
      have HW1 := HW.out
      obtain ⟨b0, hb0⟩ : ∃ b, strOfNums [48 + n1 / 100] = b := ⟨_, rfl⟩
      have y0 : b0.size = 1 := by rw [← hb0, strOfNums_size]; rfl
      obtain ⟨b1, hb1⟩ : ∃ b, strOfNums [48 + n1 / 10 % 10] = b := ⟨_, rfl⟩
      have y1 : b1.size = 1 := by rw [← hb1, strOfNums_size]; rfl
      obtain ⟨b2, hb2⟩ : ∃ b, strOfNums [48 + n1 % 10] = b := ⟨_, rfl⟩
      have y2 : b2.size = 1 := by rw [← hb2, strOfNums_size]; rfl
      have hlist : (b0.data.toList ++ (b1.data.toList ++ b2.data.toList)) = Lib.itoa n1 := by
        rw [← hb0, ← hb1, ← hb2]; exact itoa_b3 n1 (by omega) (by omega)
      have z0 : (W ++ ⟨#[46]⟩).size = W.size + 1 := by rw [ByteArray.size_append]; rfl
      obtain ⟨U0, hU0⟩ : ∃ U, W ++ ⟨#[46]⟩ = U := ⟨_, rfl⟩
      rw [hU0] at z0
      have l0 : U0.data.toList = W.data.toList ++ [46] := by rw [← hU0, ByteArray.data_append]; simp
      have zz0 : (U0 ++ b0).size = U0.size + b0.size := ByteArray.size_append
      obtain ⟨V0, hV0⟩ : ∃ U, U0 ++ b0 = U := ⟨_, rfl⟩
      rw [hV0] at zz0
      have ll0 : V0.data.toList = U0.data.toList ++ b0.data.toList := by rw [← hV0, ByteArray.data_append]; simp
      have zz1 : (V0 ++ b1).size = V0.size + b1.size := ByteArray.size_append
      obtain ⟨V1, hV1⟩ : ∃ U, V0 ++ b1 = U := ⟨_, rfl⟩
      rw [hV1] at zz1
      have ll1 : V1.data.toList = V0.data.toList ++ b1.data.toList := by rw [← hV1, ByteArray.data_append]; simp
      have zz2 : (V1 ++ b2).size = V1.size + b2.size := ByteArray.size_append
      obtain ⟨V2, hV2⟩ : ∃ U, V1 ++ b2 = U := ⟨_, rfl⟩
      rw [hV2] at zz2
      have ll2 : V2.data.toList = V1.data.toList ++ b2.data.toList := by rw [← hV2, ByteArray.data_append]; simp
      have HF : Hid (V2.data.toList = preL n0 n1 n2 n3 2) := Lib.hid (by
        rw [ll2, ll1, ll0, l0, HW1]
        simp only [List.append_assoc, hlist]
        simp [preL])
      have hsz : V2.size ≤ 8 := by omega
      clear HW1 hlist ll0 ll1 ll2 l0
      have hr1 := y0
      go_wp2_with fail
      refine (G1 _).out.mono ?_
      rintro e w2 ⟨rfl, hb⟩
      have hB2 := hB.trans (hb.mono hB.size)
      clear hb hB
      have hc0 := conv1 (w2.alloc (.cells #[.int .u8 (48 + n1 / 100)] 5)) (w2.heap.size) (48 + n1 / 100) b0 hb0 (by exact cnew _ _)
      have hc1 := conv1 ((w2.alloc (.cells #[.int .u8 (48 + n1 / 100)] 5)).alloc (.cells #[.int .u8 (48 + n1 / 10 % 10)] 5)) (w2.heap.size + 1) (48 + n1 / 10 % 10) b1 hb1 (by rw [show w2.heap.size + 1 = (w2.alloc (.cells #[.int .u8 (48 + n1 / 100)] 5)).heap.size by simp]; exact cnew _ _)
      have hc2 := conv1 (((w2.alloc (.cells #[.int .u8 (48 + n1 / 100)] 5)).alloc (.cells #[.int .u8 (48 + n1 / 10 % 10)] 5)).alloc (.cells #[.int .u8 (48 + n1 % 10)] 5)) (w2.heap.size + 1 + 1) (48 + n1 % 10) b2 hb2 (by rw [show w2.heap.size + 1 + 1 = ((w2.alloc (.cells #[.int .u8 (48 + n1 / 100)] 5)).alloc (.cells #[.int .u8 (48 + n1 / 10 % 10)] 5)).heap.size by simp]; exact cnew _ _)
      clear hb0
      clear hb1
      clear hb2
      have hB3 : Below w.heap.size w (((w2.alloc (.cells #[.int .u8 (48 + n1 / 100)] 5)).alloc (.cells #[.int .u8 (48 + n1 / 10 % 10)] 5)).alloc (.cells #[.int .u8 (48 + n1 % 10)] 5)) := by
        have q0 := hB2.alloc hB2.size (.cells #[.int .u8 (48 + n1 / 100)] 5)
        have q1 := q0.alloc q0.size (.cells #[.int .u8 (48 + n1 / 10 % 10)] 5)
        have q2 := q1.alloc q1.size (.cells #[.int .u8 (48 + n1 % 10)] 5)
        exact q2
      go_wp2_with fail
      go_round
      case rel => exact ⟨2, 2, V2, by omega, by rfl, by go_num, rfl, HF, hsz, hB3⟩
      case measure => simp [intOf]
    · obtain rfl : i0 = 2 := by omega
      clear hi0 hk
      rcases Int.lt_or_le n2 10 with d | d
      · skip
        have HW1 := HW.out
        obtain ⟨b0, hb0⟩ : ∃ b, strOfNums [48 + n2 % 10] = b := ⟨_, rfl⟩
        have y0 : b0.size = 1 := by rw [← hb0, strOfNums_size]; rfl
        have hlist : b0.data.toList = Lib.itoa n2 := by
          rw [← hb0, show n2 % 10 = n2 by omega]; exact itoa_sm n2 (by omega) (by omega)
        have z0 : (W ++ ⟨#[46]⟩).size = W.size + 1 := by rw [ByteArray.size_append]; rfl
        obtain ⟨U0, hU0⟩ : ∃ U, W ++ ⟨#[46]⟩ = U := ⟨_, rfl⟩
        rw [hU0] at z0
        have l0 : U0.data.toList = W.data.toList ++ [46] := by rw [← hU0, ByteArray.data_append]; simp
        have zz0 : (U0 ++ b0).size = U0.size + b0.size := ByteArray.size_append
        obtain ⟨V0, hV0⟩ : ∃ U, U0 ++ b0 = U := ⟨_, rfl⟩
        rw [hV0] at zz0
        have ll0 : V0.data.toList = U0.data.toList ++ b0.data.toList := by rw [← hV0, ByteArray.data_append]; simp
        have HF : Hid (V0.data.toList = preL n0 n1 n2 n3 3) := Lib.hid (by
          rw [ll0, l0, HW1]
          simp only [List.append_assoc, hlist]
          simp [preL])
        have hsz : V0.size ≤ 12 := by omega
        clear HW1 hlist ll0 l0
        have hr1 := y0
        go_wp2_with fail
        refine (G2 _).out.mono ?_
        rintro e w2 ⟨rfl, hb⟩
        have hB2 := hB.trans (hb.mono hB.size)
        clear hb hB
        have hc0 := conv1 (w2.alloc (.cells #[.int .u8 (48 + n2 % 10)] 5)) (w2.heap.size) (48 + n2 % 10) b0 hb0 (by exact cnew _ _)
        clear hb0
        have hB3 : Below w.heap.size w (w2.alloc (.cells #[.int .u8 (48 + n2 % 10)] 5)) := by
          have q0 := hB2.alloc hB2.size (.cells #[.int .u8 (48 + n2 % 10)] 5)
          exact q0
        go_wp2_with fail
        go_round
        case rel => exact ⟨3, 3, V0, by omega, by rfl, by go_num, rfl, HF, hsz, hB3⟩
        case measure => simp [intOf]
      rcases Int.lt_or_le n2 100 with d2 | d2
      · skip
        have HW1 := HW.out
        obtain ⟨b0, hb0⟩ : ∃ b, strOfNums [48 + n2 / 10 % 10] = b := ⟨_, rfl⟩
        have y0 : b0.size = 1 := by rw [← hb0, strOfNums_size]; rfl
        obtain ⟨b1, hb1⟩ : ∃ b, strOfNums [48 + n2 % 10] = b := ⟨_, rfl⟩
        have y1 : b1.size = 1 := by rw [← hb1, strOfNums_size]; rfl
        have hlist : (b0.data.toList ++ b1.data.toList) = Lib.itoa n2 := by
          rw [← hb0, ← hb1]; exact itoa_b2 n2 (by omega) (by omega)
        have z0 : (W ++ ⟨#[46]⟩).size = W.size + 1 := by rw [ByteArray.size_append]; rfl
        obtain ⟨U0, hU0⟩ : ∃ U, W ++ ⟨#[46]⟩ = U := ⟨_, rfl⟩
        rw [hU0] at z0
        have l0 : U0.data.toList = W.data.toList ++ [46] := by rw [← hU0, ByteArray.data_append]; simp
        have zz0 : (U0 ++ b0).size = U0.size + b0.size := ByteArray.size_append
        obtain ⟨V0, hV0⟩ : ∃ U, U0 ++ b0 = U := ⟨_, rfl⟩
        rw [hV0] at zz0
        have ll0 : V0.data.toList = U0.data.toList ++ b0.data.toList := by rw [← hV0, ByteArray.data_append]; simp
        have zz1 : (V0 ++ b1).size = V0.size + b1.size := ByteArray.size_append
        obtain ⟨V1, hV1⟩ : ∃ U, V0 ++ b1 = U := ⟨_, rfl⟩
        rw [hV1] at zz1
        have ll1 : V1.data.toList = V0.data.toList ++ b1.data.toList := by rw [← hV1, ByteArray.data_append]; simp
        have HF : Hid (V1.data.toList = preL n0 n1 n2 n3 3) := Lib.hid (by
          rw [ll1, ll0, l0, HW1]
          simp only [List.append_assoc, hlist]
          simp [preL])
        have hsz : V1.size ≤ 12 := by omega
        clear HW1 hlist ll0 ll1 l0
        have hr1 := y0
        go_wp2_with fail
        refine (G2 _).out.mono ?_
        rintro e w2 ⟨rfl, hb⟩
        have hB2 := hB.trans (hb.mono hB.size)
        clear hb hB
        have hc0 := conv1 (w2.alloc (.cells #[.int .u8 (48 + n2 / 10 % 10)] 5)) (w2.heap.size) (48 + n2 / 10 % 10) b0 hb0 (by exact cnew _ _)
        have hc1 := conv1 ((w2.alloc (.cells #[.int .u8 (48 + n2 / 10 % 10)] 5)).alloc (.cells #[.int .u8 (48 + n2 % 10)] 5)) (w2.heap.size + 1) (48 + n2 % 10) b1 hb1 (by rw [show w2.heap.size + 1 = (w2.alloc (.cells #[.int .u8 (48 + n2 / 10 % 10)] 5)).heap.size by simp]; exact cnew _ _)
        clear hb0
        clear hb1
        have hB3 : Below w.heap.size w ((w2.alloc (.cells #[.int .u8 (48 + n2 / 10 % 10)] 5)).alloc (.cells #[.int .u8 (48 + n2 % 10)] 5)) := by
          have q0 := hB2.alloc hB2.size (.cells #[.int .u8 (48 + n2 / 10 % 10)] 5)
          have q1 := q0.alloc q0.size (.cells #[.int .u8 (48 + n2 % 10)] 5)
          exact q1
        go_wp2_with fail
        go_round
        case rel => exact ⟨3, 3, V1, by omega, by rfl, by go_num, rfl, HF, hsz, hB3⟩
        case measure => simp [intOf]
      have HW1 := HW.out
      obtain ⟨b0, hb0⟩ : ∃ b, strOfNums [48 + n2 / 100] = b := ⟨_, rfl⟩
      have y0 : b0.size = 1 := by rw [← hb0, strOfNums_size]; rfl
      obtain ⟨b1, hb1⟩ : ∃ b, strOfNums [48 + n2 / 10 % 10] = b := ⟨_, rfl⟩
      have y1 : b1.size = 1 := by rw [← hb1, strOfNums_size]; rfl
      obtain ⟨b2, hb2⟩ : ∃ b, strOfNums [48 + n2 % 10] = b := ⟨_, rfl⟩
      have y2 : b2.size = 1 := by rw [← hb2, strOfNums_size]; rfl
      have hlist : (b0.data.toList ++ (b1.data.toList ++ b2.data.toList)) = Lib.itoa n2 := by
        rw [← hb0, ← hb1, ← hb2]; exact itoa_b3 n2 (by omega) (by omega)
      have z0 : (W ++ ⟨#[46]⟩).size = W.size + 1 := by rw [ByteArray.size_append]; rfl
      obtain ⟨U0, hU0⟩ : ∃ U, W ++ ⟨#[46]⟩ = U := ⟨_, rfl⟩
      rw [hU0] at z0
      have l0 : U0.data.toList = W.data.toList ++ [46] := by rw [← hU0, ByteArray.data_append]; simp
      have zz0 : (U0 ++ b0).size = U0.size + b0.size := ByteArray.size_append
      obtain ⟨V0, hV0⟩ : ∃ U, U0 ++ b0 = U := ⟨_, rfl⟩
      rw [hV0] at zz0
      have ll0 : V0.data.toList = U0.data.toList ++ b0.data.toList := by rw [← hV0, ByteArray.data_append]; simp
      have zz1 : (V0 ++ b1).size = V0.size + b1.size := ByteArray.size_append
      obtain ⟨V1, hV1⟩ : ∃ U, V0 ++ b1 = U := ⟨_, rfl⟩
      rw [hV1] at zz1
      have ll1 : V1.data.toList = V0.data.toList ++ b1.data.toList := by rw [← hV1, ByteArray.data_append]; simp
      have zz2 : (V1 ++ b2).size = V1.size + b2.size := ByteArray.size_append
      obtain ⟨V2, hV2⟩ : ∃ U, V1 ++ b2 = U := ⟨_, rfl⟩
      rw [hV2] at zz2
      have ll2 : V2.data.toList = V1.data.toList ++ b2.data.toList := by rw [← hV2, ByteArray.data_append]; simp
      have HF : Hid (V2.data.toList = preL n0 n1 n2 n3 3) := Lib.hid (by
        rw [ll2, ll1, ll0, l0, HW1]
        simp only [List.append_assoc, hlist]
        simp [preL])
      have hsz : V2.size ≤ 12 := by omega
      clear HW1 hlist ll0 ll1 ll2 l0
      have hr1 := y0
      go_wp2_with fail
      refine (G2 _).out.mono ?_
      rintro e w2 ⟨rfl, hb⟩
      have hB2 := hB.trans (hb.mono hB.size)
      clear hb hB
      have hc0 := conv1 (w2.alloc (.cells #[.int .u8 (48 + n2 / 100)] 5)) (w2.heap.size) (48 + n2 / 100) b0 hb0 (by exact cnew _ _)
      have hc1 := conv1 ((w2.alloc (.cells #[.int .u8 (48 + n2 / 100)] 5)).alloc (.cells #[.int .u8 (48 + n2 / 10 % 10)] 5)) (w2.heap.size + 1) (48 + n2 / 10 % 10) b1 hb1 (by rw [show w2.heap.size + 1 = (w2.alloc (.cells #[.int .u8 (48 + n2 / 100)] 5)).heap.size by simp]; exact cnew _ _)
      have hc2 := conv1 (((w2.alloc (.cells #[.int .u8 (48 + n2 / 100)] 5)).alloc (.cells #[.int .u8 (48 + n2 / 10 % 10)] 5)).alloc (.cells #[.int .u8 (48 + n2 % 10)] 5)) (w2.heap.size + 1 + 1) (48 + n2 % 10) b2 hb2 (by rw [show w2.heap.size + 1 + 1 = ((w2.alloc (.cells #[.int .u8 (48 + n2 / 100)] 5)).alloc (.cells #[.int .u8 (48 + n2 / 10 % 10)] 5)).heap.size by simp]; exact cnew _ _)
      clear hb0
      clear hb1
      clear hb2
      have hB3 : Below w.heap.size w (((w2.alloc (.cells #[.int .u8 (48 + n2 / 100)] 5)).alloc (.cells #[.int .u8 (48 + n2 / 10 % 10)] 5)).alloc (.cells #[.int .u8 (48 + n2 % 10)] 5)) := by
        have q0 := hB2.alloc hB2.size (.cells #[.int .u8 (48 + n2 / 100)] 5)
        have q1 := q0.alloc q0.size (.cells #[.int .u8 (48 + n2 / 10 % 10)] 5)
        have q2 := q1.alloc q1.size (.cells #[.int .u8 (48 + n2 % 10)] 5)
        exact q2
      go_wp2_with fail
      go_round
      case rel => exact ⟨3, 3, V2, by omega, by rfl, by go_num, rfl, HF, hsz, hB3⟩
      case measure => simp [intOf]
    · obtain rfl : i0 = 3 := by omega
      clear hi0 hk
      rcases Int.lt_or_le n3 10 with d | d
      · skip
        have HW1 := HW.out
        obtain ⟨b0, hb0⟩ : ∃ b, strOfNums [48 + n3 % 10] = b := ⟨_, rfl⟩
        have y0 : b0.size = 1 := by rw [← hb0, strOfNums_size]; rfl
        have hlist : b0.data.toList = Lib.itoa n3 := by
          rw [← hb0, show n3 % 10 = n3 by omega]; exact itoa_sm n3 (by omega) (by omega)
        have z0 : (W ++ ⟨#[46]⟩).size = W.size + 1 := by rw [ByteArray.size_append]; rfl
        obtain ⟨U0, hU0⟩ : ∃ U, W ++ ⟨#[46]⟩ = U := ⟨_, rfl⟩
        rw [hU0] at z0
        have l0 : U0.data.toList = W.data.toList ++ [46] := by rw [← hU0, ByteArray.data_append]; simp
        have zz0 : (U0 ++ b0).size = U0.size + b0.size := ByteArray.size_append
        obtain ⟨V0, hV0⟩ : ∃ U, U0 ++ b0 = U := ⟨_, rfl⟩
        rw [hV0] at zz0
        have ll0 : V0.data.toList = U0.data.toList ++ b0.data.toList := by rw [← hV0, ByteArray.data_append]; simp
        have HF : Hid (V0.data.toList = preL n0 n1 n2 n3 4) := Lib.hid (by
          rw [ll0, l0, HW1]
          simp only [List.append_assoc, hlist]
          simp [preL])
        have hsz : V0.size ≤ 16 := by omega
        clear HW1 hlist ll0 l0
        have hr1 := y0
        go_wp2_with fail
        refine (G3 _).out.mono ?_
        rintro e w2 ⟨rfl, hb⟩
        have hB2 := hB.trans (hb.mono hB.size)
        clear hb hB
        have hc0 := conv1 (w2.alloc (.cells #[.int .u8 (48 + n3 % 10)] 5)) (w2.heap.size) (48 + n3 % 10) b0 hb0 (by exact cnew _ _)
        clear hb0
        have hB3 : Below w.heap.size w (w2.alloc (.cells #[.int .u8 (48 + n3 % 10)] 5)) := by
          have q0 := hB2.alloc hB2.size (.cells #[.int .u8 (48 + n3 % 10)] 5)
          exact q0
        go_wp2_with fail
        go_round
        case rel => exact ⟨4, 4, V0, by omega, by rfl, by go_num, rfl, HF, hsz, hB3⟩
        case measure => simp [intOf]
      rcases Int.lt_or_le n3 100 with d2 | d2
      · skip
        have HW1 := HW.out
        obtain ⟨b0, hb0⟩ : ∃ b, strOfNums [48 + n3 / 10 % 10] = b := ⟨_, rfl⟩
        have y0 : b0.size = 1 := by rw [← hb0, strOfNums_size]; rfl
        obtain ⟨b1, hb1⟩ : ∃ b, strOfNums [48 + n3 % 10] = b := ⟨_, rfl⟩
        have y1 : b1.size = 1 := by rw [← hb1, strOfNums_size]; rfl
        have hlist : (b0.data.toList ++ b1.data.toList) = Lib.itoa n3 := by
          rw [← hb0, ← hb1]; exact itoa_b2 n3 (by omega) (by omega)
        have z0 : (W ++ ⟨#[46]⟩).size = W.size + 1 := by rw [ByteArray.size_append]; rfl
        obtain ⟨U0, hU0⟩ : ∃ U, W ++ ⟨#[46]⟩ = U := ⟨_, rfl⟩
        rw [hU0] at z0
        have l0 : U0.data.toList = W.data.toList ++ [46] := by rw [← hU0, ByteArray.data_append]; simp
        have zz0 : (U0 ++ b0).size = U0.size + b0.size := ByteArray.size_append
        obtain ⟨V0, hV0⟩ : ∃ U, U0 ++ b0 = U := ⟨_, rfl⟩
        rw [hV0] at zz0
        have ll0 : V0.data.toList = U0.data.toList ++ b0.data.toList := by rw [← hV0, ByteArray.data_append]; simp
        have zz1 : (V0 ++ b1).size = V0.size + b1.size := ByteArray.size_append
        obtain ⟨V1, hV1⟩ : ∃ U, V0 ++ b1 = U := ⟨_, rfl⟩
        rw [hV1] at zz1
        have ll1 : V1.data.toList = V0.data.toList ++ b1.data.toList := by rw [← hV1, ByteArray.data_append]; simp
        have HF : Hid (V1.data.toList = preL n0 n1 n2 n3 4) := Lib.hid (by
          rw [ll1, ll0, l0, HW1]
          simp only [List.append_assoc, hlist]
          simp [preL])
        have hsz : V1.size ≤ 16 := by omega
        clear HW1 hlist ll0 ll1 l0
        have hr1 := y0
        go_wp2_with fail
        refine (G3 _).out.mono ?_
        rintro e w2 ⟨rfl, hb⟩
        have hB2 := hB.trans (hb.mono hB.size)
        clear hb hB
        have hc0 := conv1 (w2.alloc (.cells #[.int .u8 (48 + n3 / 10 % 10)] 5)) (w2.heap.size) (48 + n3 / 10 % 10) b0 hb0 (by exact cnew _ _)
        have hc1 := conv1 ((w2.alloc (.cells #[.int .u8 (48 + n3 / 10 % 10)] 5)).alloc (.cells #[.int .u8 (48 + n3 % 10)] 5)) (w2.heap.size + 1) (48 + n3 % 10) b1 hb1 (by rw [show w2.heap.size + 1 = (w2.alloc (.cells #[.int .u8 (48 + n3 / 10 % 10)] 5)).heap.size by simp]; exact cnew _ _)
        clear hb0
        clear hb1
        have hB3 : Below w.heap.size w ((w2.alloc (.cells #[.int .u8 (48 + n3 / 10 % 10)] 5)).alloc (.cells #[.int .u8 (48 + n3 % 10)] 5)) := by
          have q0 := hB2.alloc hB2.size (.cells #[.int .u8 (48 + n3 / 10 % 10)] 5)
          have q1 := q0.alloc q0.size (.cells #[.int .u8 (48 + n3 % 10)] 5)
          exact q1
        go_wp2_with fail
        go_round
        case rel => exact ⟨4, 4, V1, by omega, by rfl, by go_num, rfl, HF, hsz, hB3⟩
        case measure => simp [intOf]
      have HW1 := HW.out
      obtain ⟨b0, hb0⟩ : ∃ b, strOfNums [48 + n3 / 100] = b := ⟨_, rfl⟩
      have y0 : b0.size = 1 := by rw [← hb0, strOfNums_size]; rfl
      obtain ⟨b1, hb1⟩ : ∃ b, strOfNums [48 + n3 / 10 % 10] = b := ⟨_, rfl⟩
      have y1 : b1.size = 1 := by rw [← hb1, strOfNums_size]; rfl
      obtain ⟨b2, hb2⟩ : ∃ b, strOfNums [48 + n3 % 10] = b := ⟨_, rfl⟩
      have y2 : b2.size = 1 := by rw [← hb2, strOfNums_size]; rfl
      have hlist : (b0.data.toList ++ (b1.data.toList ++ b2.data.toList)) = Lib.itoa n3 := by
        rw [← hb0, ← hb1, ← hb2]; exact itoa_b3 n3 (by omega) (by omega)
      have z0 : (W ++ ⟨#[46]⟩).size = W.size + 1 := by rw [ByteArray.size_append]; rfl
      obtain ⟨U0, hU0⟩ : ∃ U, W ++ ⟨#[46]⟩ = U := ⟨_, rfl⟩
      rw [hU0] at z0
      have l0 : U0.data.toList = W.data.toList ++ [46] := by rw [← hU0, ByteArray.data_append]; simp
      have zz0 : (U0 ++ b0).size = U0.size + b0.size := ByteArray.size_append
      obtain ⟨V0, hV0⟩ : ∃ U, U0 ++ b0 = U := ⟨_, rfl⟩
      rw [hV0] at zz0
      have ll0 : V0.data.toList = U0.data.toList ++ b0.data.toList := by rw [← hV0, ByteArray.data_append]; simp
      have zz1 : (V0 ++ b1).size = V0.size + b1.size := ByteArray.size_append
      obtain ⟨V1, hV1⟩ : ∃ U, V0 ++ b1 = U := ⟨_, rfl⟩
      rw [hV1] at zz1
      have ll1 : V1.data.toList = V0.data.toList ++ b1.data.toList := by rw [← hV1, ByteArray.data_append]; simp
      have zz2 : (V1 ++ b2).size = V1.size + b2.size := ByteArray.size_append
      obtain ⟨V2, hV2⟩ : ∃ U, V1 ++ b2 = U := ⟨_, rfl⟩
      rw [hV2] at zz2
      have ll2 : V2.data.toList = V1.data.toList ++ b2.data.toList := by rw [← hV2, ByteArray.data_append]; simp
      have HF : Hid (V2.data.toList = preL n0 n1 n2 n3 4) := Lib.hid (by
        rw [ll2, ll1, ll0, l0, HW1]
        simp only [List.append_assoc, hlist]
        simp [preL])
      have hsz : V2.size ≤ 16 := by omega
      clear HW1 hlist ll0 ll1 ll2 l0
      have hr1 := y0
      go_wp2_with fail
      refine (G3 _).out.mono ?_
      rintro e w2 ⟨rfl, hb⟩
      have hB2 := hB.trans (hb.mono hB.size)
      clear hb hB
      have hc0 := conv1 (w2.alloc (.cells #[.int .u8 (48 + n3 / 100)] 5)) (w2.heap.size) (48 + n3 / 100) b0 hb0 (by exact cnew _ _)
      have hc1 := conv1 ((w2.alloc (.cells #[.int .u8 (48 + n3 / 100)] 5)).alloc (.cells #[.int .u8 (48 + n3 / 10 % 10)] 5)) (w2.heap.size + 1) (48 + n3 / 10 % 10) b1 hb1 (by rw [show w2.heap.size + 1 = (w2.alloc (.cells #[.int .u8 (48 + n3 / 100)] 5)).heap.size by simp]; exact cnew _ _)
      have hc2 := conv1 (((w2.alloc (.cells #[.int .u8 (48 + n3 / 100)] 5)).alloc (.cells #[.int .u8 (48 + n3 / 10 % 10)] 5)).alloc (.cells #[.int .u8 (48 + n3 % 10)] 5)) (w2.heap.size + 1 + 1) (48 + n3 % 10) b2 hb2 (by rw [show w2.heap.size + 1 + 1 = ((w2.alloc (.cells #[.int .u8 (48 + n3 / 100)] 5)).alloc (.cells #[.int .u8 (48 + n3 / 10 % 10)] 5)).heap.size by simp]; exact cnew _ _)
      clear hb0
      clear hb1
      clear hb2
      have hB3 : Below w.heap.size w (((w2.alloc (.cells #[.int .u8 (48 + n3 / 100)] 5)).alloc (.cells #[.int .u8 (48 + n3 / 10 % 10)] 5)).alloc (.cells #[.int .u8 (48 + n3 % 10)] 5)) := by
        have q0 := hB2.alloc hB2.size (.cells #[.int .u8 (48 + n3 / 100)] 5)
        have q1 := q0.alloc q0.size (.cells #[.int .u8 (48 + n3 / 10 % 10)] 5)
        have q2 := q1.alloc q1.size (.cells #[.int .u8 (48 + n3 % 10)] 5)
        exact q2
      go_wp2_with fail
      go_round
      case rel => exact ⟨4, 4, V2, by omega, by rfl, by go_num, rfl, HF, hsz, hB3⟩
      case measure => simp [intOf]
    · obtain rfl : i0 = 4 := by omega
      clear hi0 hk
      have he : W = T := str_inj (HW.out.trans hT.symm)
      subst he
      clear hT
      go_wp2_with fail
      refine (PA _ (HE.out.stay hB)).out.mono ?_
      rintro e w2 ⟨rfl, hb⟩
      go_wp2_with fail
      go_ret
      exact ⟨rfl, hB.trans (hb.mono hB.size)⟩
end Go.Proofs.YtobcecnmeepjpaaDoor

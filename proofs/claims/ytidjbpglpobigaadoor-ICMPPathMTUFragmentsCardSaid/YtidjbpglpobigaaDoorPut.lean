/- Contracts of wire.Put and wire.Get. -/
import Derived.Test.YtidjbpglpobigaaDoorSplit
import Derived.OwnWalk
import Derived.Laws.CopyOwn
import Derived.Laws.BytesArg
import Derived.Laws.Rows
namespace Go.Proofs.YtidjbpglpobigaaDoor
open Go.RowKit

/-- the four bytes of a number, the greatest first -/
def be4 (n : Int) : List Int := [n / 16777216 % 256, n / 65536 % 256, n / 256 % 256, n % 256]
/-- the last b of them -/
def beNums (b : Nat) (n : Int) : List Int := (be4 n).drop (4 - b)
theorem beNums_length (b : Nat) (n : Int) (hb : b ≤ 4) : (beNums b n).length = b := by simp [beNums, be4]; omega


set_option maxHeartbeats 800000 in
theorem put_1 (n : Int) (w : World) (h1 : 0 ≤ n) (h2 : n ≤ 255) :
    Calls Tryd.prog 83 #[.int .i64 n, .int .i64 1] w fun e w' => e = .returned (.tuple #[.string (strOfNums [(n % 256)]), .int .i64 0]) ∧ Below w.heap.size w w' := by
  have t1 : decide (n < 0) = false := by simpa using h1
  have t2 : (n / 256 != 0) = false := by simp; omega
  have hmk : ∀ w, (Instr.makeSlice 47 (.int .i64 1) (.int .i64 1)).run Tryd.prog w = .ok (.slice (some ⟨w.heap.size, 0, none⟩) 1 1) (w.alloc (.cells #[.int .u8 0] 5)) := fun _ => by kernel_rfl
  go_enter Tryd.func83, Tryd.ntmps83
  go_wp2_with (first | (go_at_call 98; refine (validWidth_yes _ _ (by omega) (by omega)).mono ?_; rintro e w' ⟨rfl, rfl⟩) | (go_at_call 99; refine (split_any _ _ (by omega) (by omega)).mono ?_; rintro e w1 ⟨rfl, hb1⟩) | (refine wpList_copy_splice rfl (.tmp 26) (.tmp 29) 47 47 rfl 5 Tryd.underlying47 (by kernel_rfl) (some ⟨w1.heap.size + 1, 0, none⟩) (some ⟨w1.heap.size, 3, none⟩) 1 1 1 1 rfl rfl (w1.heap.size + 1) 0 [.int .u8 0] 5 ?_ [.int .u8 (n % 256)] ?_ ?_ ?_ ?_ w.heap.size w ?_ ?_ ?_))
  case refine_1 => have := heap_alloc_new (w1.alloc (.cells #[.int .u8 (n / 16777216), .int .u8 (n / 65536 % 256), .int .u8 (n / 256 % 256), .int .u8 (n % 256)] 165)) (.cells #[.int .u8 0] 5); simpa using this
  case refine_2 => rfl
  case refine_3 => intro j v hj; rcases j with _ | _ | _ | _ | j <;> first | exact hj | (simp at hj; done)
  case refine_4 => simp
  case refine_5 => simp [Value.oneCell']
  case refine_6 => exact (hb1.alloc hb1.size _).alloc (by have := hb1.size; simp; omega) _
  case refine_7 => have := hb1.size; omega
  case refine_8 =>
    intro w2 hg2 hb2
    have hcv := run_convert_bytes_arg (P := Tryd.prog) w2 47 5 Tryd.underlying47 Tryd.underlying5 (w1.heap.size + 1) 0 1 1 [(n % 256)] rfl (fun i hi => by
      rw [cell_of_row _ _ _ _ _ _ hg2.out]
      rcases i with _ | _ | _ | _ | i <;> first | rfl | omega) 9 Tryd.underlying9
    go_wp2
    go_ret2
    exact ⟨rfl, hb2⟩

set_option maxHeartbeats 800000 in
theorem put_2 (n : Int) (w : World) (h1 : 0 ≤ n) (h2 : n ≤ 65535) :
    Calls Tryd.prog 83 #[.int .i64 n, .int .i64 2] w fun e w' => e = .returned (.tuple #[.string (strOfNums [(n / 256 % 256), (n % 256)]), .int .i64 0]) ∧ Below w.heap.size w w' := by
  have t1 : decide (n < 0) = false := by simpa using h1
  have t2 : (n / 65536 != 0) = false := by simp; omega
  have hmk : ∀ w, (Instr.makeSlice 47 (.int .i64 2) (.int .i64 2)).run Tryd.prog w = .ok (.slice (some ⟨w.heap.size, 0, none⟩) 2 2) (w.alloc (.cells #[.int .u8 0, .int .u8 0] 5)) := fun _ => by kernel_rfl
  go_enter Tryd.func83, Tryd.ntmps83
  go_wp2_with (first | (go_at_call 98; refine (validWidth_yes _ _ (by omega) (by omega)).mono ?_; rintro e w' ⟨rfl, rfl⟩) | (go_at_call 99; refine (split_any _ _ (by omega) (by omega)).mono ?_; rintro e w1 ⟨rfl, hb1⟩) | (refine wpList_copy_splice rfl (.tmp 26) (.tmp 29) 47 47 rfl 5 Tryd.underlying47 (by kernel_rfl) (some ⟨w1.heap.size + 1, 0, none⟩) (some ⟨w1.heap.size, 2, none⟩) 2 2 2 2 rfl rfl (w1.heap.size + 1) 0 [.int .u8 0, .int .u8 0] 5 ?_ [.int .u8 (n / 256 % 256), .int .u8 (n % 256)] ?_ ?_ ?_ ?_ w.heap.size w ?_ ?_ ?_))
  case refine_1 => have := heap_alloc_new (w1.alloc (.cells #[.int .u8 (n / 16777216), .int .u8 (n / 65536 % 256), .int .u8 (n / 256 % 256), .int .u8 (n % 256)] 165)) (.cells #[.int .u8 0, .int .u8 0] 5); simpa using this
  case refine_2 => rfl
  case refine_3 => intro j v hj; rcases j with _ | _ | _ | _ | j <;> first | exact hj | (simp at hj; done)
  case refine_4 => simp
  case refine_5 => simp [Value.oneCell']
  case refine_6 => exact (hb1.alloc hb1.size _).alloc (by have := hb1.size; simp; omega) _
  case refine_7 => have := hb1.size; omega
  case refine_8 =>
    intro w2 hg2 hb2
    have hcv := run_convert_bytes_arg (P := Tryd.prog) w2 47 5 Tryd.underlying47 Tryd.underlying5 (w1.heap.size + 1) 0 2 2 [(n / 256 % 256), (n % 256)] rfl (fun i hi => by
      rw [cell_of_row _ _ _ _ _ _ hg2.out]
      rcases i with _ | _ | _ | _ | i <;> first | rfl | omega) 9 Tryd.underlying9
    go_wp2
    go_ret2
    exact ⟨rfl, hb2⟩

set_option maxHeartbeats 800000 in
theorem put_3 (n : Int) (w : World) (h1 : 0 ≤ n) (h2 : n ≤ 16777215) :
    Calls Tryd.prog 83 #[.int .i64 n, .int .i64 3] w fun e w' => e = .returned (.tuple #[.string (strOfNums [(n / 65536 % 256), (n / 256 % 256), (n % 256)]), .int .i64 0]) ∧ Below w.heap.size w w' := by
  have t1 : decide (n < 0) = false := by simpa using h1
  have t2 : (n / 16777216 != 0) = false := by simp; omega
  have hmk : ∀ w, (Instr.makeSlice 47 (.int .i64 3) (.int .i64 3)).run Tryd.prog w = .ok (.slice (some ⟨w.heap.size, 0, none⟩) 3 3) (w.alloc (.cells #[.int .u8 0, .int .u8 0, .int .u8 0] 5)) := fun _ => by kernel_rfl
  go_enter Tryd.func83, Tryd.ntmps83
  go_wp2_with (first | (go_at_call 98; refine (validWidth_yes _ _ (by omega) (by omega)).mono ?_; rintro e w' ⟨rfl, rfl⟩) | (go_at_call 99; refine (split_any _ _ (by omega) (by omega)).mono ?_; rintro e w1 ⟨rfl, hb1⟩) | (refine wpList_copy_splice rfl (.tmp 26) (.tmp 29) 47 47 rfl 5 Tryd.underlying47 (by kernel_rfl) (some ⟨w1.heap.size + 1, 0, none⟩) (some ⟨w1.heap.size, 1, none⟩) 3 3 3 3 rfl rfl (w1.heap.size + 1) 0 [.int .u8 0, .int .u8 0, .int .u8 0] 5 ?_ [.int .u8 (n / 65536 % 256), .int .u8 (n / 256 % 256), .int .u8 (n % 256)] ?_ ?_ ?_ ?_ w.heap.size w ?_ ?_ ?_))
  case refine_1 => have := heap_alloc_new (w1.alloc (.cells #[.int .u8 (n / 16777216), .int .u8 (n / 65536 % 256), .int .u8 (n / 256 % 256), .int .u8 (n % 256)] 165)) (.cells #[.int .u8 0, .int .u8 0, .int .u8 0] 5); simpa using this
  case refine_2 => rfl
  case refine_3 => intro j v hj; rcases j with _ | _ | _ | _ | j <;> first | exact hj | (simp at hj; done)
  case refine_4 => simp
  case refine_5 => simp [Value.oneCell']
  case refine_6 => exact (hb1.alloc hb1.size _).alloc (by have := hb1.size; simp; omega) _
  case refine_7 => have := hb1.size; omega
  case refine_8 =>
    intro w2 hg2 hb2
    have hcv := run_convert_bytes_arg (P := Tryd.prog) w2 47 5 Tryd.underlying47 Tryd.underlying5 (w1.heap.size + 1) 0 3 3 [(n / 65536 % 256), (n / 256 % 256), (n % 256)] rfl (fun i hi => by
      rw [cell_of_row _ _ _ _ _ _ hg2.out]
      rcases i with _ | _ | _ | _ | i <;> first | rfl | omega) 9 Tryd.underlying9
    go_wp2
    go_ret2
    exact ⟨rfl, hb2⟩

set_option maxHeartbeats 800000 in
theorem put_4 (n : Int) (w : World) (h1 : 0 ≤ n) (h2 : n ≤ 4294967295) :
    Calls Tryd.prog 83 #[.int .i64 n, .int .i64 4] w fun e w' => e = .returned (.tuple #[.string (strOfNums [(n / 16777216), (n / 65536 % 256), (n / 256 % 256), (n % 256)]), .int .i64 0]) ∧ Below w.heap.size w w' := by
  have t1 : decide (n < 0) = false := by simpa using h1
  have t2 : (n / 4294967296 != 0) = false := by simp; omega
  have hmk : ∀ w, (Instr.makeSlice 47 (.int .i64 4) (.int .i64 4)).run Tryd.prog w = .ok (.slice (some ⟨w.heap.size, 0, none⟩) 4 4) (w.alloc (.cells #[.int .u8 0, .int .u8 0, .int .u8 0, .int .u8 0] 5)) := fun _ => by kernel_rfl
  go_enter Tryd.func83, Tryd.ntmps83
  go_wp2_with (first | (go_at_call 98; refine (validWidth_yes _ _ (by omega) (by omega)).mono ?_; rintro e w' ⟨rfl, rfl⟩) | (go_at_call 99; refine (split_any _ _ (by omega) (by omega)).mono ?_; rintro e w1 ⟨rfl, hb1⟩) | (refine wpList_copy_splice rfl (.tmp 26) (.tmp 29) 47 47 rfl 5 Tryd.underlying47 (by kernel_rfl) (some ⟨w1.heap.size + 1, 0, none⟩) (some ⟨w1.heap.size, 0, none⟩) 4 4 4 4 rfl rfl (w1.heap.size + 1) 0 [.int .u8 0, .int .u8 0, .int .u8 0, .int .u8 0] 5 ?_ [.int .u8 (n / 16777216), .int .u8 (n / 65536 % 256), .int .u8 (n / 256 % 256), .int .u8 (n % 256)] ?_ ?_ ?_ ?_ w.heap.size w ?_ ?_ ?_))
  case refine_1 => have := heap_alloc_new (w1.alloc (.cells #[.int .u8 (n / 16777216), .int .u8 (n / 65536 % 256), .int .u8 (n / 256 % 256), .int .u8 (n % 256)] 165)) (.cells #[.int .u8 0, .int .u8 0, .int .u8 0, .int .u8 0] 5); simpa using this
  case refine_2 => rfl
  
  case refine_4 => simp
  case refine_5 => simp [Value.oneCell']
  case refine_6 => exact (hb1.alloc hb1.size _).alloc (by have := hb1.size; simp; omega) _
  case refine_7 => have := hb1.size; omega
  case refine_8 =>
    intro w2 hg2 hb2
    have hcv := run_convert_bytes_arg (P := Tryd.prog) w2 47 5 Tryd.underlying47 Tryd.underlying5 (w1.heap.size + 1) 0 4 4 [(n / 16777216), (n / 65536 % 256), (n / 256 % 256), (n % 256)] rfl (fun i hi => by
      rw [cell_of_row _ _ _ _ _ _ hg2.out]
      rcases i with _ | _ | _ | _ | i <;> first | rfl | omega) 9 Tryd.underlying9
    go_wp2
    go_ret2
    exact ⟨rfl, hb2⟩

/-- what Put gives -/
def beS (b n : Int) : ByteArray := strOfNums (beNums b.toNat n)
theorem beS_size (b n : Int) (h1 : 1 ≤ b) (h2 : b ≤ 4) : (beS b n).size = b.toNat := by
  unfold beS; rw [strOfNums_size, beNums_length _ _ (by omega)]

theorem put_any (n b : Int) (w : World) (hb1 : 1 ≤ b) (hb2 : b ≤ 4) (h1 : 0 ≤ n) (h2 : n < 256 ^ b.toNat) :
    Calls Tryd.prog 83 #[.int .i64 n, .int .i64 b] w fun e w' => e = .returned (.tuple #[.string (beS b n), .int .i64 0]) ∧ Below w.heap.size w w' := by
  have hb : b = 1 ∨ b = 2 ∨ b = 3 ∨ b = 4 := by omega
  rcases hb with rfl | rfl | rfl | rfl
  · exact put_1 n w h1 (by simp at h2; omega)
  · exact put_2 n w h1 (by simp at h2; omega)
  · exact put_3 n w h1 (by simp at h2; omega)
  · have := put_4 n w h1 (by simp at h2; omega)
    rwa [show n / 16777216 = n / 16777216 % 256 by simp at h2; omega] at this

theorem put_width (n b : Int) (w : World) (h : b < 1 ∨ 4 < b) :
    Calls Tryd.prog 83 #[.int .i64 n, .int .i64 b] w fun e w' => e = .returned (.tuple #[.string ByteArray.empty, .int .i64 10]) ∧ w = w' := by
  go_enter Tryd.func83, Tryd.ntmps83
  go_wp2_with (go_at_call 98; refine (validWidth_no _ _ h).mono ?_; rintro e w' ⟨rfl, rfl⟩)
  go_ret2
  exact ⟨rfl, rfl⟩
theorem put_neg (n b : Int) (w : World) (hb1 : 1 ≤ b) (hb2 : b ≤ 4) (h1 : n < 0) :
    Calls Tryd.prog 83 #[.int .i64 n, .int .i64 b] w fun e w' => e = .returned (.tuple #[.string ByteArray.empty, .int .i64 10]) ∧ w = w' := by
  have t1 : decide (n < 0) = true := by simpa using h1
  go_enter Tryd.func83, Tryd.ntmps83
  go_wp2_with (go_at_call 98; refine (validWidth_yes _ _ hb1 hb2).mono ?_; rintro e w' ⟨rfl, rfl⟩)
  go_ret2
  exact ⟨rfl, rfl⟩

theorem put_big_1 (n : Int) (w : World) (h1 : 256 ≤ n) (h2 : n ≤ 9223372036854775807) :
    Calls Tryd.prog 83 #[.int .i64 n, .int .i64 1] w fun e w' => e = .returned (.tuple #[.string ByteArray.empty, .int .i64 10]) ∧ w = w' := by
  have t1 : decide (n < 0) = false := by simp; omega
  have t2 : (n / 256 != 0) = true := by simp; omega
  have t3 : 0 ≤ n := by omega
  go_enter Tryd.func83, Tryd.ntmps83
  go_wp2_with (go_at_call 98; refine (validWidth_yes _ _ (by omega) (by omega)).mono ?_; rintro e w' ⟨rfl, rfl⟩)
  go_ret2
  exact ⟨rfl, rfl⟩

theorem put_big_2 (n : Int) (w : World) (h1 : 65536 ≤ n) (h2 : n ≤ 9223372036854775807) :
    Calls Tryd.prog 83 #[.int .i64 n, .int .i64 2] w fun e w' => e = .returned (.tuple #[.string ByteArray.empty, .int .i64 10]) ∧ w = w' := by
  have t1 : decide (n < 0) = false := by simp; omega
  have t2 : (n / 65536 != 0) = true := by simp; omega
  have t3 : 0 ≤ n := by omega
  go_enter Tryd.func83, Tryd.ntmps83
  go_wp2_with (go_at_call 98; refine (validWidth_yes _ _ (by omega) (by omega)).mono ?_; rintro e w' ⟨rfl, rfl⟩)
  go_ret2
  exact ⟨rfl, rfl⟩

theorem put_big_3 (n : Int) (w : World) (h1 : 16777216 ≤ n) (h2 : n ≤ 9223372036854775807) :
    Calls Tryd.prog 83 #[.int .i64 n, .int .i64 3] w fun e w' => e = .returned (.tuple #[.string ByteArray.empty, .int .i64 10]) ∧ w = w' := by
  have t1 : decide (n < 0) = false := by simp; omega
  have t2 : (n / 16777216 != 0) = true := by simp; omega
  have t3 : 0 ≤ n := by omega
  go_enter Tryd.func83, Tryd.ntmps83
  go_wp2_with (go_at_call 98; refine (validWidth_yes _ _ (by omega) (by omega)).mono ?_; rintro e w' ⟨rfl, rfl⟩)
  go_ret2
  exact ⟨rfl, rfl⟩

theorem put_big_4 (n : Int) (w : World) (h1 : 4294967296 ≤ n) (h2 : n ≤ 9223372036854775807) :
    Calls Tryd.prog 83 #[.int .i64 n, .int .i64 4] w fun e w' => e = .returned (.tuple #[.string ByteArray.empty, .int .i64 10]) ∧ w = w' := by
  have t1 : decide (n < 0) = false := by simp; omega
  have t2 : (n / 4294967296 != 0) = true := by simp; omega
  have t3 : 0 ≤ n := by omega
  go_enter Tryd.func83, Tryd.ntmps83
  go_wp2_with (go_at_call 98; refine (validWidth_yes _ _ (by omega) (by omega)).mono ?_; rintro e w' ⟨rfl, rfl⟩)
  go_ret2
  exact ⟨rfl, rfl⟩

/-- Put refuses all else -/
theorem put_no (n b : Int) (w : World) (h2 : n ≤ 9223372036854775807) (h : ¬ (1 ≤ b ∧ b ≤ 4 ∧ 0 ≤ n ∧ n < 256 ^ b.toNat)) :
    Calls Tryd.prog 83 #[.int .i64 n, .int .i64 b] w fun e w' => e = .returned (.tuple #[.string ByteArray.empty, .int .i64 10]) ∧ w = w' := by
  by_cases hw : b < 1 ∨ 4 < b
  · exact put_width n b w hw
  by_cases hn : n < 0
  · exact put_neg n b w (by omega) (by omega) hn
  have hb : b = 1 ∨ b = 2 ∨ b = 3 ∨ b = 4 := by omega
  rcases hb with rfl | rfl | rfl | rfl
  · exact put_big_1 n w (by simp at h; omega) h2
  · exact put_big_2 n w (by simp at h; omega) h2
  · exact put_big_3 n w (by simp at h; omega) h2
  · exact put_big_4 n w (by simp at h; omega) h2

end Go.Proofs.YtidjbpglpobigaaDoor

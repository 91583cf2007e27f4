/- Contracts of wire.Put and wire.Get. -/
import Derived.Test.YtobcecnmeepjpaaDoorWSplit
import Derived.OwnWalk
import Derived.Laws.CopyOwn
import Derived.Laws.BytesArg
import Derived.Laws.Rows
namespace Go.Proofs.YtobcecnmeepjpaaDoor.wr
open Go.RowKit

/-- the four bytes of a number, the greatest first -/
def be4 (n : Int) : List Int := [n / 16777216 % 256, n / 65536 % 256, n / 256 % 256, n % 256]
/-- the last b of them -/
def beNums (b : Nat) (n : Int) : List Int := (be4 n).drop (4 - b)
theorem beNums_length (b : Nat) (n : Int) (hb : b ≤ 4) : (beNums b n).length = b := by simp [beNums, be4]; omega


set_option maxHeartbeats 800000 in
theorem put_4 (n : Int) (w : World) (h1 : 0 ≤ n) (h2 : n ≤ 4294967295) :
    Calls Tryd.prog 25 #[.int .i64 n, .int .i64 4] w fun e w' => e = .returned (.tuple #[.string (strOfNums [(n / 16777216), (n / 65536 % 256), (n / 256 % 256), (n % 256)]), .int .i64 0]) ∧ Below w.heap.size w w' := by
  have t1 : decide (n < 0) = false := by simpa using h1
  have t2 : (n / 4294967296 != 0) = false := by simp; omega
  have hmk : ∀ w, (Instr.makeSlice 32 (.int .i64 4) (.int .i64 4)).run Tryd.prog w = .ok (.slice (some ⟨w.heap.size, 0, none⟩) 4 4) (w.alloc (.cells #[.int .u8 0, .int .u8 0, .int .u8 0, .int .u8 0] 5)) := fun _ => by kernel_rfl
  go_enter Tryd.func25, Tryd.ntmps25
  go_wp2_with (first | (go_at_call 41; refine (validWidth_yes _ _ (by omega) (by omega)).mono ?_; rintro e w' ⟨rfl, rfl⟩) | (go_at_call 42; refine (split_any _ _ (by omega) (by omega)).mono ?_; rintro e w1 ⟨rfl, hb1⟩) | (refine wpList_copy_splice rfl (.tmp 26) (.tmp 29) 32 32 rfl 5 Tryd.underlying32 (by kernel_rfl) (some ⟨w1.heap.size + 1, 0, none⟩) (some ⟨w1.heap.size, 0, none⟩) 4 4 4 4 rfl rfl (w1.heap.size + 1) 0 [.int .u8 0, .int .u8 0, .int .u8 0, .int .u8 0] 5 ?_ [.int .u8 (n / 16777216), .int .u8 (n / 65536 % 256), .int .u8 (n / 256 % 256), .int .u8 (n % 256)] ?_ ?_ ?_ ?_ w.heap.size w ?_ ?_ ?_))
  case refine_1 => have := heap_alloc_new (w1.alloc (.cells #[.int .u8 (n / 16777216), .int .u8 (n / 65536 % 256), .int .u8 (n / 256 % 256), .int .u8 (n % 256)] 59)) (.cells #[.int .u8 0, .int .u8 0, .int .u8 0, .int .u8 0] 5); simpa using this
  case refine_2 => rfl
  
  case refine_4 => simp
  case refine_5 => simp [Value.oneCell']
  case refine_6 => exact (hb1.alloc hb1.size _).alloc (by have := hb1.size; simp; omega) _
  case refine_7 => have := hb1.size; omega
  case refine_8 =>
    intro w2 hg2 hb2
    have hcv := run_convert_bytes_arg (P := Tryd.prog) w2 32 5 Tryd.underlying32 Tryd.underlying5 (w1.heap.size + 1) 0 4 4 [(n / 16777216), (n / 65536 % 256), (n / 256 % 256), (n % 256)] rfl (fun i hi => by
      rw [cell_of_row _ _ _ _ _ _ hg2.out]
      rcases i with _ | _ | _ | _ | i <;> first | rfl | omega) 9 Tryd.underlying9
    go_wp2
    go_ret2
    exact ⟨rfl, hb2⟩
end Go.Proofs.YtobcecnmeepjpaaDoor.wr

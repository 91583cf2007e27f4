/- Contracts of the reference implementation of layer 1. -/
import Derived.Test.YtidjbpglpobigaaDoorBytesMath
namespace Go.Proofs.YtidjbpglpobigaaDoor
open Go.RowKit

theorem power_1 (w : World) : Calls Tryd.prog 102 #[.int .i64 1] w fun e w' => e = .returned (.int .i64 256) ∧ w = w' := by
  go_enter Tryd.func102, Tryd.ntmps102
  go_wp2
  go_rounds 2
  go_ret
  exact ⟨rfl, rfl⟩

theorem power_2 (w : World) : Calls Tryd.prog 102 #[.int .i64 2] w fun e w' => e = .returned (.int .i64 65536) ∧ w = w' := by
  go_enter Tryd.func102, Tryd.ntmps102
  go_wp2
  go_rounds 3
  go_ret
  exact ⟨rfl, rfl⟩

theorem power_3 (w : World) : Calls Tryd.prog 102 #[.int .i64 3] w fun e w' => e = .returned (.int .i64 16777216) ∧ w = w' := by
  go_enter Tryd.func102, Tryd.ntmps102
  go_wp2
  go_rounds 4
  go_ret
  exact ⟨rfl, rfl⟩

theorem power_4 (w : World) : Calls Tryd.prog 102 #[.int .i64 4] w fun e w' => e = .returned (.int .i64 4294967296) ∧ w = w' := by
  go_enter Tryd.func102, Tryd.ntmps102
  go_wp2
  go_rounds 5
  go_ret
  exact ⟨rfl, rfl⟩

theorem app_nums (xs ys : List Int) : strOfNums xs ++ strOfNums ys = strOfNums (xs ++ ys) := ba_ext (by rw [toList_append, strOfNums_data, strOfNums_data, strOfNums_data, List.map_append])
theorem beS_1' (n : Int) : beS 1 n = strOfNums [n % 256] := rfl
theorem beS_2' (n : Int) : beS 2 n = strOfNums [n / 256 % 256, n % 256] := rfl
theorem beS_3' (n : Int) : beS 3 n = strOfNums [n / 256 / 256 % 256, n / 256 % 256, n % 256] := by
  rw [show n / 256 / 256 = n / 65536 by omega]; rfl
theorem beS_4' (n : Int) : beS 4 n = strOfNums [n / 256 / 256 / 256 % 256, n / 256 / 256 % 256, n / 256 % 256, n % 256] := by
  rw [show n / 256 / 256 / 256 = n / 16777216 by omega, show n / 256 / 256 = n / 65536 by omega]; rfl
/-- []byte{x} as a string, in the world in which its block is the last -/
theorem conv1 (w : World) (n : Nat) (x : Int) (t : TypeId) (hn : n = w.heap.size) :
    (convert 47 9 (.slice (some ⟨n, 0, none⟩) 1 1)).run Tryd.prog (w.alloc (.cells #[.int .u8 x] t)) = .ok (.string (strOfNums [x])) (w.alloc (.cells #[.int .u8 x] t)) := by
  subst hn
  exact run_convert_bytes_arg (P := Tryd.prog) _ 47 5 Tryd.underlying47 Tryd.underlying5 w.heap.size 0 1 1 [x] rfl (fun i hi => by
    obtain rfl : i = 0 := by omega
    rw [World.cell?_alloc_new]; rfl) 9 Tryd.underlying9

set_option maxHeartbeats 1600000 in
theorem refPut_1 (n : Int) (w : World) (h1 : 0 ≤ n) (h2 : n ≤ 255) :
    Calls Tryd.prog 91 #[.int .i64 n, .int .i64 1] w fun e w' => e = .returned (.tuple #[.string (beS 1 n), .int .i64 0]) ∧ Below w.heap.size w w' := by
  have t1 : decide (n < 0) = false := by simpa using h1
  have t2 : decide (256 ≤ n) = false := by simp; omega
  have hcv := conv1
  have hss : ∀ x : Int, (strOfNums [x]).size = 1 := fun x => rfl
  go_enter Tryd.func91, Tryd.ntmps91
  go_wp2_with (go_at_call 102; refine (power_1 _).mono ?_; rintro e w' ⟨rfl, rfl⟩)
  go_rounds 2
  go_ret2
  refine ⟨?_, ((Below.refl _ _).alloc (Nat.le_refl _) _)⟩
  rw [show (({ data := #[] } : ByteArray)) = strOfNums [] from rfl]
  simp only [app_nums, List.cons_append, List.nil_append]
  rw [beS_1']
  rfl

set_option maxHeartbeats 1600000 in
theorem refPut_2 (n : Int) (w : World) (h1 : 0 ≤ n) (h2 : n ≤ 65535) :
    Calls Tryd.prog 91 #[.int .i64 n, .int .i64 2] w fun e w' => e = .returned (.tuple #[.string (beS 2 n), .int .i64 0]) ∧ Below w.heap.size w w' := by
  have t1 : decide (n < 0) = false := by simpa using h1
  have t2 : decide (65536 ≤ n) = false := by simp; omega
  have hcv := conv1
  have hss : ∀ x : Int, (strOfNums [x]).size = 1 := fun x => rfl
  go_enter Tryd.func91, Tryd.ntmps91
  go_wp2_with (go_at_call 102; refine (power_2 _).mono ?_; rintro e w' ⟨rfl, rfl⟩)
  go_rounds 3
  go_ret2
  refine ⟨?_, (((Below.refl _ _).alloc (Nat.le_refl _) _).alloc (by simp <;> omega) _)⟩
  rw [show (({ data := #[] } : ByteArray)) = strOfNums [] from rfl]
  simp only [app_nums, List.cons_append, List.nil_append]
  rw [beS_2']
  rfl

set_option maxHeartbeats 1600000 in
theorem refPut_3 (n : Int) (w : World) (h1 : 0 ≤ n) (h2 : n ≤ 16777215) :
    Calls Tryd.prog 91 #[.int .i64 n, .int .i64 3] w fun e w' => e = .returned (.tuple #[.string (beS 3 n), .int .i64 0]) ∧ Below w.heap.size w w' := by
  have t1 : decide (n < 0) = false := by simpa using h1
  have t2 : decide (16777216 ≤ n) = false := by simp; omega
  have hcv := conv1
  have hss : ∀ x : Int, (strOfNums [x]).size = 1 := fun x => rfl
  go_enter Tryd.func91, Tryd.ntmps91
  go_wp2_with (go_at_call 102; refine (power_3 _).mono ?_; rintro e w' ⟨rfl, rfl⟩)
  go_rounds 4
  go_ret2
  refine ⟨?_, ((((Below.refl _ _).alloc (Nat.le_refl _) _).alloc (by simp <;> omega) _).alloc (by simp <;> omega) _)⟩
  rw [show (({ data := #[] } : ByteArray)) = strOfNums [] from rfl]
  simp only [app_nums, List.cons_append, List.nil_append]
  rw [beS_3']
  rfl

set_option maxHeartbeats 1600000 in
theorem refPut_4 (n : Int) (w : World) (h1 : 0 ≤ n) (h2 : n ≤ 4294967295) :
    Calls Tryd.prog 91 #[.int .i64 n, .int .i64 4] w fun e w' => e = .returned (.tuple #[.string (beS 4 n), .int .i64 0]) ∧ Below w.heap.size w w' := by
  have t1 : decide (n < 0) = false := by simpa using h1
  have t2 : decide (4294967296 ≤ n) = false := by simp; omega
  have hcv := conv1
  have hss : ∀ x : Int, (strOfNums [x]).size = 1 := fun x => rfl
  go_enter Tryd.func91, Tryd.ntmps91
  go_wp2_with (go_at_call 102; refine (power_4 _).mono ?_; rintro e w' ⟨rfl, rfl⟩)
  go_rounds 5
  go_ret2
  refine ⟨?_, (((((Below.refl _ _).alloc (Nat.le_refl _) _).alloc (by simp <;> omega) _).alloc (by simp <;> omega) _).alloc (by simp <;> omega) _)⟩
  rw [show (({ data := #[] } : ByteArray)) = strOfNums [] from rfl]
  simp only [app_nums, List.cons_append, List.nil_append]
  rw [beS_4']
  rfl

theorem refPut_width (n b : Int) (w : World) (h : b < 1 ∨ 4 < b) :
    Calls Tryd.prog 91 #[.int .i64 n, .int .i64 b] w fun e w' => e = .returned (.tuple #[.string ByteArray.empty, .int .i64 10]) ∧ w = w' := by
  rcases h with h | h
  · have t1 : decide (b < 1) = true := by simpa using h
    go_enter Tryd.func91, Tryd.ntmps91
    go_wp2
    go_ret2
    exact ⟨rfl, rfl⟩
  · have t1 : decide (b < 1) = false := by simp; omega
    have t2 : decide (4 < b) = true := by simpa using h
    go_enter Tryd.func91, Tryd.ntmps91
    go_wp2
    go_ret2
    exact ⟨rfl, rfl⟩
theorem refPut_neg (n b : Int) (w : World) (hb1 : 1 ≤ b) (hb2 : b ≤ 4) (h1 : n < 0) :
    Calls Tryd.prog 91 #[.int .i64 n, .int .i64 b] w fun e w' => e = .returned (.tuple #[.string ByteArray.empty, .int .i64 10]) ∧ w = w' := by
  have t1 : decide (b < 1) = false := by simp; omega
  have t2 : decide (4 < b) = false := by simp; omega
  have t3 : decide (n < 0) = true := by simpa using h1
  go_enter Tryd.func91, Tryd.ntmps91
  go_wp2
  go_ret2
  exact ⟨rfl, rfl⟩

theorem refPut_big_1 (n : Int) (w : World) (h1 : 256 ≤ n) :
    Calls Tryd.prog 91 #[.int .i64 n, .int .i64 1] w fun e w' => e = .returned (.tuple #[.string ByteArray.empty, .int .i64 10]) ∧ w = w' := by
  have t1 : decide (n < 0) = false := by simp; omega
  have t2 : decide (256 ≤ n) = true := by simpa using h1
  go_enter Tryd.func91, Tryd.ntmps91
  go_wp2_with (go_at_call 102; refine (power_1 _).mono ?_; rintro e w' ⟨rfl, rfl⟩)
  go_ret2
  exact ⟨rfl, rfl⟩

theorem refPut_big_2 (n : Int) (w : World) (h1 : 65536 ≤ n) :
    Calls Tryd.prog 91 #[.int .i64 n, .int .i64 2] w fun e w' => e = .returned (.tuple #[.string ByteArray.empty, .int .i64 10]) ∧ w = w' := by
  have t1 : decide (n < 0) = false := by simp; omega
  have t2 : decide (65536 ≤ n) = true := by simpa using h1
  go_enter Tryd.func91, Tryd.ntmps91
  go_wp2_with (go_at_call 102; refine (power_2 _).mono ?_; rintro e w' ⟨rfl, rfl⟩)
  go_ret2
  exact ⟨rfl, rfl⟩

theorem refPut_big_3 (n : Int) (w : World) (h1 : 16777216 ≤ n) :
    Calls Tryd.prog 91 #[.int .i64 n, .int .i64 3] w fun e w' => e = .returned (.tuple #[.string ByteArray.empty, .int .i64 10]) ∧ w = w' := by
  have t1 : decide (n < 0) = false := by simp; omega
  have t2 : decide (16777216 ≤ n) = true := by simpa using h1
  go_enter Tryd.func91, Tryd.ntmps91
  go_wp2_with (go_at_call 102; refine (power_3 _).mono ?_; rintro e w' ⟨rfl, rfl⟩)
  go_ret2
  exact ⟨rfl, rfl⟩

theorem refPut_big_4 (n : Int) (w : World) (h1 : 4294967296 ≤ n) :
    Calls Tryd.prog 91 #[.int .i64 n, .int .i64 4] w fun e w' => e = .returned (.tuple #[.string ByteArray.empty, .int .i64 10]) ∧ w = w' := by
  have t1 : decide (n < 0) = false := by simp; omega
  have t2 : decide (4294967296 ≤ n) = true := by simpa using h1
  go_enter Tryd.func91, Tryd.ntmps91
  go_wp2_with (go_at_call 102; refine (power_4 _).mono ?_; rintro e w' ⟨rfl, rfl⟩)
  go_ret2
  exact ⟨rfl, rfl⟩

/-- what both give -/
def putS (n b : Int) : ByteArray := if 1 ≤ b ∧ b ≤ 4 ∧ 0 ≤ n ∧ n < 256 ^ b.toNat then beS b n else ByteArray.empty
def putE (n b : Int) : Int := if 1 ≤ b ∧ b ≤ 4 ∧ 0 ≤ n ∧ n < 256 ^ b.toNat then 0 else 10
theorem put_R (n b : Int) (w : World) (hn : n ≤ 9223372036854775807) :
    Calls Tryd.prog 83 #[.int .i64 n, .int .i64 b] w fun e w' => e = .returned (.tuple #[.string (putS n b), .int .i64 (putE n b)]) ∧ Below w.heap.size w w' := by
  unfold putS putE
  by_cases h : 1 ≤ b ∧ b ≤ 4 ∧ 0 ≤ n ∧ n < 256 ^ b.toNat
  · rw [if_pos h, if_pos h]; exact put_any n b w h.1 h.2.1 h.2.2.1 h.2.2.2
  · rw [if_neg h, if_neg h]; exact (put_no n b w hn h).mono fun _ _ ⟨h1, h2⟩ => ⟨h1, by rw [← h2]; exact Below.refl _ _⟩
theorem refPut_R (n b : Int) (w : World) :
    Calls Tryd.prog 91 #[.int .i64 n, .int .i64 b] w fun e w' => e = .returned (.tuple #[.string (putS n b), .int .i64 (putE n b)]) ∧ Below w.heap.size w w' := by
  unfold putS putE
  by_cases hw : b < 1 ∨ 4 < b
  · rw [if_neg (by omega), if_neg (by omega)]; exact (refPut_width n b w hw).mono fun _ _ ⟨h1, h2⟩ => ⟨h1, by rw [← h2]; exact Below.refl _ _⟩
  by_cases hn : n < 0
  · rw [if_neg (by omega), if_neg (by omega)]; exact (refPut_neg n b w (by omega) (by omega) hn).mono fun _ _ ⟨h1, h2⟩ => ⟨h1, by rw [← h2]; exact Below.refl _ _⟩
  have hb : b = 1 ∨ b = 2 ∨ b = 3 ∨ b = 4 := by omega
  by_cases h : n < 256 ^ b.toNat
  · rw [if_pos ⟨by omega, by omega, by omega, h⟩, if_pos ⟨by omega, by omega, by omega, h⟩]
    rcases hb with rfl | rfl | rfl | rfl
    · exact refPut_1 n w (by omega) (by simp at h; omega)
    · exact refPut_2 n w (by omega) (by simp at h; omega)
    · exact refPut_3 n w (by omega) (by simp at h; omega)
    · exact refPut_4 n w (by omega) (by simp at h; omega)
  · rw [if_neg (fun hh => h hh.2.2.2), if_neg (fun hh => h hh.2.2.2)]
    rcases hb with rfl | rfl | rfl | rfl
    · exact (refPut_big_1 n w (by simp at h; omega)).mono fun _ _ ⟨h1, h2⟩ => ⟨h1, by rw [← h2]; exact Below.refl _ _⟩
    · exact (refPut_big_2 n w (by simp at h; omega)).mono fun _ _ ⟨h1, h2⟩ => ⟨h1, by rw [← h2]; exact Below.refl _ _⟩
    · exact (refPut_big_3 n w (by simp at h; omega)).mono fun _ _ ⟨h1, h2⟩ => ⟨h1, by rw [← h2]; exact Below.refl _ _⟩
    · exact (refPut_big_4 n w (by simp at h; omega)).mono fun _ _ ⟨h1, h2⟩ => ⟨h1, by rw [← h2]; exact Below.refl _ _⟩
end Go.Proofs.YtidjbpglpobigaaDoor

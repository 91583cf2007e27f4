/- The walk of the statement WireRoundTrip. -/
import Derived.Test.YtolohjinjpegmaaSanity
import Derived.Test.YtolohjinjpegmaaBytesMath
namespace Go.Proofs.Ytolohjinjpegmaa
open Go.RowKit

set_option maxHeartbeats 4000000 in
theorem roundTrip_1 (a0 a1 : Int) (a2 a3 : ByteArray) (w0 : (Lit.int .i64 a0).wf = true) (w1 : (Lit.int .i64 a1).wf = true) (w2 : a2.size ≤ maxLen) (w3 : a3.size ≤ maxLen) (w : World) (hb : pickZ a1 4 = 0) :
    Calls Try.prog 4 #[.int .i64 a0, .int .i64 a1, .string a2, .string a3] w fun e w' => e = .returned (.bool true) ∧ Below w.heap.size w w' := by
  unfold maxLen at w2 w3
  obtain ⟨l0, u0⟩ := i64_bd w0
  obtain ⟨l1, u1⟩ := i64_bd w1
  obtain ⟨m1, m2⟩ := pickZ_bd a0 256 (by decide)
  obtain ⟨m, hm⟩ : ∃ m, pickZ a0 256 = m := ⟨_, rfl⟩
  rw [hm] at m1 m2
  obtain ⟨sp, hsp⟩ : ∃ sp, beS 1 m = sp := ⟨_, rfl⟩
  have hz : sp.size = 1 := by rw [← hsp]; exact beS_size 1 m (by decide) (by decide)
  have hz1 : ((sp.size : Int) == 1) = true := by rw [hz]; rfl
  have hz2 : sp.size ≤ 4 := by omega
  have hround : beVal sp.data.toList = m := by rw [← hsp]; exact beS_round 1 m (by decide) (by decide) m1 (by simpa using m2)
  have Hz := Lib.hid hz
  have Hround := Lib.hid hround
  clear w0 w1 hz hround
  rcases cut_cases a2 100 with ⟨hA, fr, hfr, hfs⟩ | ⟨hA, fr, hfr, hfs⟩ <;> rcases cut_cases a3 100 with ⟨hB, bh, hbh, hbs⟩ | ⟨hB, bh, hbh, hbs⟩
  all_goals
    have hmid : beVal (((fr ++ sp ++ bh).data.toList.drop fr.size).take ((1 : Int).toNat)) = m := by
      have := mid_take fr sp bh
      rw [Hz.out] at this
      exact (congrArg beVal this).trans Hround.out
    have hsz : fr.size + 1 ≤ (fr ++ sp ++ bh).size := by simp only [ByteArray.size_append, Hz.out]; omega
    have hsz2 : (fr ++ sp ++ bh).size ≤ maxLen := by simp only [ByteArray.size_append, Hz.out]; unfold maxLen; omega
    have Hget := Lib.hid (fun w => (get_nat (fr ++ sp ++ bh) fr.size 1 w (by decide) (by decide) hsz hsz2))
    have Hmid := Lib.hid hmid
    clear hmid hsz hsz2
    go_enter Try.func4, Try.ntmps4
    go_wp2_with fail
    refine (sanity_any _).mono ?_
    rintro e w1 ⟨rfl, hb1⟩
    go_wp2_with fail
    refine (pick_any _ _ _ l1 u1 (by omega) (by omega)).mono ?_
    rintro e w' ⟨rfl, rfl⟩
    go_wp2_with fail
    refine (pick_any _ _ _ l0 u0 (by omega) (by omega)).mono ?_
    rintro e w' ⟨rfl, rfl⟩
    go_wp2_with fail
    refine (put_any _ _ _ (by decide) (by decide) m1 (by simpa using m2)).mono ?_
    rintro e w2 ⟨rfl, hb2⟩
    go_wp2_with fail
    refine (Hget.out _).mono ?_
    rintro e w3 ⟨rfl, hb3⟩
    rw [Hmid.out]
    go_wp2_with fail
    refine (put_any _ _ _ (by decide) (by decide) m1 (by simpa using m2)).mono ?_
    rintro e w4 ⟨rfl, hb4⟩
    go_wp2_with fail
    go_ret
    have hb12 := hb1.trans (hb2.mono hb1.size)
    have hb13 := hb12.trans (hb3.mono hb12.size)
    exact ⟨rfl, hb13.trans (hb4.mono hb13.size)⟩

set_option maxHeartbeats 4000000 in
theorem roundTrip_2 (a0 a1 : Int) (a2 a3 : ByteArray) (w0 : (Lit.int .i64 a0).wf = true) (w1 : (Lit.int .i64 a1).wf = true) (w2 : a2.size ≤ maxLen) (w3 : a3.size ≤ maxLen) (w : World) (hb : pickZ a1 4 = 1) :
    Calls Try.prog 4 #[.int .i64 a0, .int .i64 a1, .string a2, .string a3] w fun e w' => e = .returned (.bool true) ∧ Below w.heap.size w w' := by
  unfold maxLen at w2 w3
  obtain ⟨l0, u0⟩ := i64_bd w0
  obtain ⟨l1, u1⟩ := i64_bd w1
  obtain ⟨m1, m2⟩ := pickZ_bd a0 65536 (by decide)
  obtain ⟨m, hm⟩ : ∃ m, pickZ a0 65536 = m := ⟨_, rfl⟩
  rw [hm] at m1 m2
  obtain ⟨sp, hsp⟩ : ∃ sp, beS 2 m = sp := ⟨_, rfl⟩
  have hz : sp.size = 2 := by rw [← hsp]; exact beS_size 2 m (by decide) (by decide)
  have hz1 : ((sp.size : Int) == 2) = true := by rw [hz]; rfl
  have hz2 : sp.size ≤ 4 := by omega
  have hround : beVal sp.data.toList = m := by rw [← hsp]; exact beS_round 2 m (by decide) (by decide) m1 (by simpa using m2)
  have Hz := Lib.hid hz
  have Hround := Lib.hid hround
  clear w0 w1 hz hround
  rcases cut_cases a2 100 with ⟨hA, fr, hfr, hfs⟩ | ⟨hA, fr, hfr, hfs⟩ <;> rcases cut_cases a3 100 with ⟨hB, bh, hbh, hbs⟩ | ⟨hB, bh, hbh, hbs⟩
  all_goals
    have hmid : beVal (((fr ++ sp ++ bh).data.toList.drop fr.size).take ((2 : Int).toNat)) = m := by
      have := mid_take fr sp bh
      rw [Hz.out] at this
      exact (congrArg beVal this).trans Hround.out
    have hsz : fr.size + 2 ≤ (fr ++ sp ++ bh).size := by simp only [ByteArray.size_append, Hz.out]; omega
    have hsz2 : (fr ++ sp ++ bh).size ≤ maxLen := by simp only [ByteArray.size_append, Hz.out]; unfold maxLen; omega
    have Hget := Lib.hid (fun w => (get_nat (fr ++ sp ++ bh) fr.size 2 w (by decide) (by decide) hsz hsz2))
    have Hmid := Lib.hid hmid
    clear hmid hsz hsz2
    go_enter Try.func4, Try.ntmps4
    go_wp2_with fail
    refine (sanity_any _).mono ?_
    rintro e w1 ⟨rfl, hb1⟩
    go_wp2_with fail
    refine (pick_any _ _ _ l1 u1 (by omega) (by omega)).mono ?_
    rintro e w' ⟨rfl, rfl⟩
    go_wp2_with fail
    refine (pick_any _ _ _ l0 u0 (by omega) (by omega)).mono ?_
    rintro e w' ⟨rfl, rfl⟩
    go_wp2_with fail
    refine (put_any _ _ _ (by decide) (by decide) m1 (by simpa using m2)).mono ?_
    rintro e w2 ⟨rfl, hb2⟩
    go_wp2_with fail
    refine (Hget.out _).mono ?_
    rintro e w3 ⟨rfl, hb3⟩
    rw [Hmid.out]
    go_wp2_with fail
    refine (put_any _ _ _ (by decide) (by decide) m1 (by simpa using m2)).mono ?_
    rintro e w4 ⟨rfl, hb4⟩
    go_wp2_with fail
    go_ret
    have hb12 := hb1.trans (hb2.mono hb1.size)
    have hb13 := hb12.trans (hb3.mono hb12.size)
    exact ⟨rfl, hb13.trans (hb4.mono hb13.size)⟩

set_option maxHeartbeats 4000000 in
theorem roundTrip_3 (a0 a1 : Int) (a2 a3 : ByteArray) (w0 : (Lit.int .i64 a0).wf = true) (w1 : (Lit.int .i64 a1).wf = true) (w2 : a2.size ≤ maxLen) (w3 : a3.size ≤ maxLen) (w : World) (hb : pickZ a1 4 = 2) :
    Calls Try.prog 4 #[.int .i64 a0, .int .i64 a1, .string a2, .string a3] w fun e w' => e = .returned (.bool true) ∧ Below w.heap.size w w' := by
  unfold maxLen at w2 w3
  obtain ⟨l0, u0⟩ := i64_bd w0
  obtain ⟨l1, u1⟩ := i64_bd w1
  obtain ⟨m1, m2⟩ := pickZ_bd a0 16777216 (by decide)
  obtain ⟨m, hm⟩ : ∃ m, pickZ a0 16777216 = m := ⟨_, rfl⟩
  rw [hm] at m1 m2
  obtain ⟨sp, hsp⟩ : ∃ sp, beS 3 m = sp := ⟨_, rfl⟩
  have hz : sp.size = 3 := by rw [← hsp]; exact beS_size 3 m (by decide) (by decide)
  have hz1 : ((sp.size : Int) == 3) = true := by rw [hz]; rfl
  have hz2 : sp.size ≤ 4 := by omega
  have hround : beVal sp.data.toList = m := by rw [← hsp]; exact beS_round 3 m (by decide) (by decide) m1 (by simpa using m2)
  have Hz := Lib.hid hz
  have Hround := Lib.hid hround
  clear w0 w1 hz hround
  rcases cut_cases a2 100 with ⟨hA, fr, hfr, hfs⟩ | ⟨hA, fr, hfr, hfs⟩ <;> rcases cut_cases a3 100 with ⟨hB, bh, hbh, hbs⟩ | ⟨hB, bh, hbh, hbs⟩
  all_goals
    have hmid : beVal (((fr ++ sp ++ bh).data.toList.drop fr.size).take ((3 : Int).toNat)) = m := by
      have := mid_take fr sp bh
      rw [Hz.out] at this
      exact (congrArg beVal this).trans Hround.out
    have hsz : fr.size + 3 ≤ (fr ++ sp ++ bh).size := by simp only [ByteArray.size_append, Hz.out]; omega
    have hsz2 : (fr ++ sp ++ bh).size ≤ maxLen := by simp only [ByteArray.size_append, Hz.out]; unfold maxLen; omega
    have Hget := Lib.hid (fun w => (get_nat (fr ++ sp ++ bh) fr.size 3 w (by decide) (by decide) hsz hsz2))
    have Hmid := Lib.hid hmid
    clear hmid hsz hsz2
    go_enter Try.func4, Try.ntmps4
    go_wp2_with fail
    refine (sanity_any _).mono ?_
    rintro e w1 ⟨rfl, hb1⟩
    go_wp2_with fail
    refine (pick_any _ _ _ l1 u1 (by omega) (by omega)).mono ?_
    rintro e w' ⟨rfl, rfl⟩
    go_wp2_with fail
    refine (pick_any _ _ _ l0 u0 (by omega) (by omega)).mono ?_
    rintro e w' ⟨rfl, rfl⟩
    go_wp2_with fail
    refine (put_any _ _ _ (by decide) (by decide) m1 (by simpa using m2)).mono ?_
    rintro e w2 ⟨rfl, hb2⟩
    go_wp2_with fail
    refine (Hget.out _).mono ?_
    rintro e w3 ⟨rfl, hb3⟩
    rw [Hmid.out]
    go_wp2_with fail
    refine (put_any _ _ _ (by decide) (by decide) m1 (by simpa using m2)).mono ?_
    rintro e w4 ⟨rfl, hb4⟩
    go_wp2_with fail
    go_ret
    have hb12 := hb1.trans (hb2.mono hb1.size)
    have hb13 := hb12.trans (hb3.mono hb12.size)
    exact ⟨rfl, hb13.trans (hb4.mono hb13.size)⟩

set_option maxHeartbeats 4000000 in
theorem roundTrip_4 (a0 a1 : Int) (a2 a3 : ByteArray) (w0 : (Lit.int .i64 a0).wf = true) (w1 : (Lit.int .i64 a1).wf = true) (w2 : a2.size ≤ maxLen) (w3 : a3.size ≤ maxLen) (w : World) (hb : pickZ a1 4 = 3) :
    Calls Try.prog 4 #[.int .i64 a0, .int .i64 a1, .string a2, .string a3] w fun e w' => e = .returned (.bool true) ∧ Below w.heap.size w w' := by
  unfold maxLen at w2 w3
  obtain ⟨l0, u0⟩ := i64_bd w0
  obtain ⟨l1, u1⟩ := i64_bd w1
  obtain ⟨m1, m2⟩ := pickZ_bd a0 4294967296 (by decide)
  obtain ⟨m, hm⟩ : ∃ m, pickZ a0 4294967296 = m := ⟨_, rfl⟩
  rw [hm] at m1 m2
  obtain ⟨sp, hsp⟩ : ∃ sp, beS 4 m = sp := ⟨_, rfl⟩
  have hz : sp.size = 4 := by rw [← hsp]; exact beS_size 4 m (by decide) (by decide)
  have hz1 : ((sp.size : Int) == 4) = true := by rw [hz]; rfl
  have hz2 : sp.size ≤ 4 := by omega
  have hround : beVal sp.data.toList = m := by rw [← hsp]; exact beS_round 4 m (by decide) (by decide) m1 (by simpa using m2)
  have Hz := Lib.hid hz
  have Hround := Lib.hid hround
  clear w0 w1 hz hround
  rcases cut_cases a2 100 with ⟨hA, fr, hfr, hfs⟩ | ⟨hA, fr, hfr, hfs⟩ <;> rcases cut_cases a3 100 with ⟨hB, bh, hbh, hbs⟩ | ⟨hB, bh, hbh, hbs⟩
  all_goals
    have hmid : beVal (((fr ++ sp ++ bh).data.toList.drop fr.size).take ((4 : Int).toNat)) = m := by
      have := mid_take fr sp bh
      rw [Hz.out] at this
      exact (congrArg beVal this).trans Hround.out
    have hsz : fr.size + 4 ≤ (fr ++ sp ++ bh).size := by simp only [ByteArray.size_append, Hz.out]; omega
    have hsz2 : (fr ++ sp ++ bh).size ≤ maxLen := by simp only [ByteArray.size_append, Hz.out]; unfold maxLen; omega
    have Hget := Lib.hid (fun w => (get_nat (fr ++ sp ++ bh) fr.size 4 w (by decide) (by decide) hsz hsz2))
    have Hmid := Lib.hid hmid
    clear hmid hsz hsz2
    go_enter Try.func4, Try.ntmps4
    go_wp2_with fail
    refine (sanity_any _).mono ?_
    rintro e w1 ⟨rfl, hb1⟩
    go_wp2_with fail
    refine (pick_any _ _ _ l1 u1 (by omega) (by omega)).mono ?_
    rintro e w' ⟨rfl, rfl⟩
    go_wp2_with fail
    refine (pick_any _ _ _ l0 u0 (by omega) (by omega)).mono ?_
    rintro e w' ⟨rfl, rfl⟩
    go_wp2_with fail
    refine (put_any _ _ _ (by decide) (by decide) m1 (by simpa using m2)).mono ?_
    rintro e w2 ⟨rfl, hb2⟩
    go_wp2_with fail
    refine (Hget.out _).mono ?_
    rintro e w3 ⟨rfl, hb3⟩
    rw [Hmid.out]
    go_wp2_with fail
    refine (put_any _ _ _ (by decide) (by decide) m1 (by simpa using m2)).mono ?_
    rintro e w4 ⟨rfl, hb4⟩
    go_wp2_with fail
    go_ret
    have hb12 := hb1.trans (hb2.mono hb1.size)
    have hb13 := hb12.trans (hb3.mono hb12.size)
    exact ⟨rfl, hb13.trans (hb4.mono hb13.size)⟩

theorem roundTrip_walk (a0 a1 : Int) (a2 a3 : ByteArray) (w0 : (Lit.int .i64 a0).wf = true) (w1 : (Lit.int .i64 a1).wf = true) (w2 : a2.size ≤ maxLen) (w3 : a3.size ≤ maxLen) (w : World) :
    Calls Try.prog 4 #[.int .i64 a0, .int .i64 a1, .string a2, .string a3] w fun e w' => e = .returned (.bool true) ∧ Below w.heap.size w w' := by
  obtain ⟨p1, p2⟩ := pickZ_bd a1 4 (by decide)
  have hb : pickZ a1 4 = 0 ∨ pickZ a1 4 = 1 ∨ pickZ a1 4 = 2 ∨ pickZ a1 4 = 3 := by omega
  rcases hb with hb | hb | hb | hb
  · exact roundTrip_1 a0 a1 a2 a3 w0 w1 w2 w3 w hb
  · exact roundTrip_2 a0 a1 a2 a3 w0 w1 w2 w3 w hb
  · exact roundTrip_3 a0 a1 a2 a3 w0 w1 w2 w3 w hb
  · exact roundTrip_4 a0 a1 a2 a3 w0 w1 w2 w3 w hb
end Go.Proofs.Ytolohjinjpegmaa

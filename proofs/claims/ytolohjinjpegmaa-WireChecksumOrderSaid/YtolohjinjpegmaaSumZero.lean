/- The walk of the statement WireChecksumZero. -/
import Derived.Test.YtolohjinjpegmaaSanity
import Derived.Test.YtolohjinjpegmaaBytesMath
namespace Go.Proofs.Ytolohjinjpegmaa
open Go.RowKit

theorem ofNat_toNat (x : Int) (h0 : 0 ≤ x) (h1 : x < 256) : (UInt8.ofNat x.toNat).toNat = x.toNat := by
  rw [UInt8.toNat_ofNat']; omega
theorem SW_be2 (m : Int) (h0 : 0 ≤ m) (h1 : m ≤ 65535) : SW (beS 2 m).data.toList = m.toNat := by
  have e : (beS 2 m).data.toList = [UInt8.ofNat (m / 256 % 256).toNat, UInt8.ofNat (m % 256).toNat] := rfl
  rw [e, SW_two, SW_nil, ofNat_toNat _ (by omega) (by omega), ofNat_toNat _ (by omega) (by omega)]
  omega

/-- a string cut to at most n bytes, and to an even number: two ways, as the walk parts -/
theorem cut_even (s : ByteArray) (n : Nat) (hn : n % 2 = 0) :
    (n < s.size ∧ ∃ t, s.extract 0 n = t ∧ t.size ≤ n ∧ ∃ k, t.data.toList.length = 2 * k) ∨ (s.size ≤ n ∧ ∃ t, s.extract 0 (s.size / 2 * 2) = t ∧ t.size ≤ n ∧ ∃ k, t.data.toList.length = 2 * k) := by
  rcases Nat.lt_or_ge n s.size with h | h
  · exact .inl ⟨h, _, rfl, by simp only [ByteArray.size_extract]; omega, n / 2, by rw [size_toList, ByteArray.size_extract]; omega⟩
  · exact .inr ⟨h, _, rfl, by simp only [ByteArray.size_extract]; omega, s.size / 2, by rw [size_toList, ByteArray.size_extract]; omega⟩

/-- the checksum behind a string of even length -/
theorem zero_yes (t : ByteArray) (k : Nat) (hk : t.data.toList.length = 2 * k) (c : Nat) (hc : sumN t.data.toList = c) : sumN (t ++ beS 2 (c : Int)).data.toList = 0 := by
  have hle := sumN_le t.data.toList
  rw [toList_append, sumN_eq, SW_append k _ _ hk, SW_be2 _ (by omega) (by omega)]
  rw [sumN_eq] at hc
  have := foldC_eq (SW t.data.toList)
  have h2 := foldC_eq (SW t.data.toList + (c : Int).toNat)
  split at this <;> split at h2 <;> omega
theorem zero_iff (t : ByteArray) (k : Nat) (hk : t.data.toList.length = 2 * k) (c : Nat) (hc : sumN t.data.toList = c) (m : Int) (h0 : 0 ≤ m) (h1 : m ≤ 65535) :
    sumN (t ++ beS 2 m).data.toList = 0 ↔ (m = c ∨ m = 65535 ∧ (c : Int) = 0) := by
  rw [toList_append, sumN_eq, SW_append k _ _ hk, SW_be2 _ (by omega) (by omega)]
  rw [sumN_eq] at hc
  have := foldC_eq (SW t.data.toList)
  have h2 := foldC_eq (SW t.data.toList + m.toNat)
  split at this <;> split at h2 <;> omega

theorem put_two (n : Int) (w : World) (h0 : 0 ≤ n) (h1 : n ≤ 65535) :
    Calls Try.prog 10 #[.int .i64 n, .int .i64 2] w fun e w' => e = .returned (.tuple #[.string (beS 2 n), .int .i64 0]) ∧ Below w.heap.size w w' :=
  put_any n 2 w (by decide) (by decide) h0 (by
    have : (256 : Int) ^ (2 : Int).toNat = 65536 := by decide
    omega)

set_option maxHeartbeats 4000000 in
theorem sumZero_walk (a0 : ByteArray) (a1 : Int) (w0 : a0.size ≤ maxLen) (w1 : (Lit.int .i64 a1).wf = true) (w : World) :
    Calls Try.prog 5 #[.string a0, .int .i64 a1] w fun e w' => e = .returned (.bool true) ∧ Below w.heap.size w w' := by
  unfold maxLen at w0
  obtain ⟨l1, u1⟩ := i64_bd w1
  obtain ⟨m1, m2⟩ := pickZ_bd a1 65536 (by decide)
  obtain ⟨m, hm⟩ : ∃ m, pickZ a1 65536 = m := ⟨_, rfl⟩
  rw [hm] at m1 m2
  clear w1
  rcases cut_even a0 400 (by decide) with ⟨hA, t, ht, hts, k, hk⟩ | ⟨hA, t, ht, hts, k, hk⟩
  all_goals
    obtain ⟨c, hc⟩ : ∃ c, sumN t.data.toList = c := ⟨_, rfl⟩
    have hcle : c ≤ 65535 := by rw [← hc]; exact sumN_le _
    obtain ⟨u, hu⟩ : ∃ u, beS 2 (c : Int) = u := ⟨_, rfl⟩
    obtain ⟨v, hv⟩ : ∃ v, beS 2 m = v := ⟨_, rfl⟩
    have hus : u.size ≤ 2 := by rw [← hu, beS_size _ _ (by decide) (by decide)]; decide
    have hvs : v.size ≤ 2 := by rw [← hv, beS_size _ _ (by decide) (by decide)]; decide
    have hzero := zero_yes t k hk c hc
    have hiff := zero_iff t k hk c hc m m1 (by omega)
    rw [hu] at hzero
    rw [hv] at hiff
    obtain ⟨x, hx⟩ : ∃ x : Int, ((sumN (t ++ v).data.toList : Nat) : Int) = x := ⟨_, rfl⟩
    have hiff2 : x = 0 ↔ (m = c ∨ m = 65535 ∧ (c : Int) = 0) := by rw [← hiff]; omega
    have h1 : ∀ w, Calls Try.prog 14 #[.string t] w fun e w' => e = .returned (.int .i64 (c : Int)) ∧ Below w.heap.size w w' := fun w =>
      (sum_any t (by omega) w).mono fun _ _ ⟨h, hb⟩ => ⟨by rw [h, hc], hb⟩
    have h2 : ∀ w, Calls Try.prog 14 #[.string (t ++ u)] w fun e w' => e = .returned (.int .i64 0) ∧ Below w.heap.size w w' := fun w =>
      (sum_any (t ++ u) (by rw [ByteArray.size_append]; omega) w).mono fun _ _ ⟨h, hb⟩ => ⟨by rw [h, hzero]; rfl, hb⟩
    have h3 : ∀ w, Calls Try.prog 14 #[.string (t ++ v)] w fun e w' => e = .returned (.int .i64 x) ∧ Below w.heap.size w w' := fun w =>
      (sum_any (t ++ v) (by rw [ByteArray.size_append]; omega) w).mono fun _ _ ⟨h, hb⟩ => ⟨by rw [h, hx], hb⟩
    have H1 := Lib.hid h1
    have H2 := Lib.hid h2
    have H3 := Lib.hid h3
    clear h1 h2 h3 hx hzero hiff hk hc
    have hcase : (m = c ∧ x = 0) ∨ (m ≠ c ∧ m = 65535 ∧ (c : Int) = 0 ∧ x = 0) ∨ (m ≠ c ∧ m = 65535 ∧ (c : Int) ≠ 0 ∧ x ≠ 0) ∨ (m ≠ c ∧ m ≠ 65535 ∧ x ≠ 0) := by omega
    clear hiff2
    rcases hcase with ⟨e1, e2⟩ | ⟨e1, e2, e3, e4⟩ | ⟨e1, e2, e3, e4⟩ | ⟨e1, e2, e3⟩
  all_goals
    first
    | (have t1 : (m == (c : Int)) = true := beq_iff_eq.2 e1
       have t2 : (x == 0) = true := beq_iff_eq.2 e2
       clear e1 e2)
    | (have t1 : (m == (c : Int)) = false := beq_eq_false_iff_ne.2 e1
       have t2 : (m == 65535) = true := beq_iff_eq.2 e2
       have t3 : ((c : Int) == 0) = true := beq_iff_eq.2 e3
       have t4 : (x == 0) = true := beq_iff_eq.2 e4
       clear e1 e2 e3 e4)
    | (have t1 : (m == (c : Int)) = false := beq_eq_false_iff_ne.2 e1
       have t2 : (m == 65535) = true := beq_iff_eq.2 e2
       have t3 : ((c : Int) == 0) = false := beq_eq_false_iff_ne.2 e3
       have t4 : (x == 0) = false := beq_eq_false_iff_ne.2 e4
       clear e1 e2 e3 e4)
    | (have t1 : (m == (c : Int)) = false := beq_eq_false_iff_ne.2 e1
       have t2 : (m == 65535) = false := beq_eq_false_iff_ne.2 e2
       have t3 : (x == 0) = false := beq_eq_false_iff_ne.2 e3
       clear e1 e2 e3)
    go_enter Try.func5, Try.ntmps5
    go_wp2_with fail
    refine (sanity_any _).mono ?_
    rintro e w1 ⟨rfl, hb1⟩
    go_wp2_with fail
    refine (H1.out _).mono ?_
    rintro e w2 ⟨rfl, hb2⟩
    go_wp2_with fail
    refine (put_two _ _ (by omega) (by omega)).mono ?_
    rintro e w3 ⟨rfl, hb3⟩
    go_wp2_with fail
    refine (pick_any _ _ _ l1 u1 (by omega) (by omega)).mono ?_
    rintro e w' ⟨rfl, rfl⟩
    go_wp2_with fail
    refine (put_two _ _ (by omega) (by omega)).mono ?_
    rintro e w4 ⟨rfl, hb4⟩
    go_wp2_with fail
    refine (H2.out _).mono ?_
    rintro e w5 ⟨rfl, hb5⟩
    go_wp2_with fail
    refine (H3.out _).mono ?_
    rintro e w6 ⟨rfl, hb6⟩
    go_wp2_with fail
    go_ret
    have hb12 := hb1.trans (hb2.mono hb1.size)
    have hb13 := hb12.trans (hb3.mono hb12.size)
    have hb14 := hb13.trans (hb4.mono hb13.size)
    have hb15 := hb14.trans (hb5.mono hb14.size)
    exact ⟨rfl, hb15.trans (hb6.mono hb15.size)⟩
end Go.Proofs.Ytolohjinjpegmaa

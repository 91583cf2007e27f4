/- Contracts of the reference implementation of layer 1: Checksum, CRC32. -/
import Derived.Test.YtolohjinjpegmaaRefGet
namespace Go.Proofs.Ytolohjinjpegmaa
open Go.RowKit

theorem SW_snoc (l : List UInt8) (x : UInt8) : SW (l ++ [x]) = SW l + if l.length % 2 = 0 then 256 * x.toNat else x.toNat := by
  by_cases h : l.length % 2 = 0
  · rw [if_pos h, SW_append (l.length / 2) l [x] (by omega), SW_one]; omega
  · rw [if_neg h]
    have hne : l ≠ [] := by intro e; rw [e] at h; simp at h
    rw [← List.dropLast_concat_getLast hne, List.append_assoc, List.singleton_append]
    have hl : l.dropLast.length = 2 * (l.dropLast.length / 2) := by rw [List.length_dropLast]; omega
    rw [SW_append _ _ _ hl, SW_append _ _ _ hl, SW_two, SW_one, SW_nil]
    omega
theorem take1_snoc (s : ByteArray) (j : Nat) (h : j < s.size) : s.data.toList.take (j + 1) = s.data.toList.take j ++ [s[j]] := by
  rw [List.take_succ_eq_append_getElem (by rw [size_toList]; omega)]
  rfl
theorem SW_take (s : ByteArray) (j : Nat) (h : j < s.size) : SW (s.data.toList.take (j + 1)) = SW (s.data.toList.take j) + if j % 2 = 0 then 256 * s[j].toNat else s[j].toNat := by
  rw [take1_snoc s j h, SW_snoc, List.length_take, size_toList, Nat.min_eq_left (by omega)]
theorem SW_le (l : List UInt8) : SW l ≤ 65536 * l.length := by
  have h := sumW_le (wordL l)
  rw [wordL_length] at h
  unfold SW
  unfold nWords at h
  rcases l with _ | ⟨x, l⟩
  · decide
  · simp only [List.length_cons] at h ⊢; omega

set_option maxHeartbeats 1600000 in
theorem refSum_any (s : ByteArray) (hs : s.size ≤ 1099511627776) (w : World) :
    Calls Try.prog 15 #[.string s] w fun e w' => e = .returned (.int .i64 ((sumN s.data.toList : Nat) : Int)) ∧ w = w' := by
  go_enter Try.func15, Try.ntmps15
  go_wp2
  go_loop [3, 4] (fun n i => ∃ k m : Nat, k ≤ s.size ∧ Hid (SW (s.data.toList.take k) = m) ∧ m ≤ 65536 * s.size ∧ n = .int .i64 m ∧ i = .int .i64 k) (fun _ i => s.size - (intOf i).toNat)
  case atStart => exact ⟨0, 0, by omega, (show SW (List.take 0 s.data.toList) = 0 from SW_nil), by omega, rfl, rfl⟩
  case round =>
    obtain ⟨k, m, hk, hm, hml, rfl, rfl⟩ := hrel
    by_cases h : k < s.size
    · have hy := s[k].toNat_lt
      have Hst := Lib.hid (SW_take s k h)
      have hle : SW (s.data.toList.take (k + 1)) ≤ 65536 * s.size := by
        have := SW_le (s.data.toList.take (k + 1))
        rw [List.length_take, size_toList, Nat.min_eq_left (by omega)] at this
        omega
      have Hle := Lib.hid hle
      clear hle
      by_cases h2 : k % 2 = 0
      · have t1 : ((k : Int) % 2 == 0) = true := by rw [beq_iff_eq]; omega
        have Hst2 : Hid (SW (s.data.toList.take (k + 1)) = m + 256 * s[k].toNat) := by
          show _ = _
          have := Hst.out
          rw [if_pos h2, hm.out] at this
          exact this
        clear h2 Hst
        go_wp2
        go_round
        case rel => exact ⟨k + 1, m + 256 * s[k].toNat, by omega, Hst2, by rw [← Hst2.out]; exact Hle.out, by go_num, by go_num⟩
        case measure => simp [intOf]; omega
      · have t1 : ((k : Int) % 2 == 0) = false := by rw [beq_eq_false_iff_ne]; omega
        have Hst2 : Hid (SW (s.data.toList.take (k + 1)) = m + s[k].toNat) := by
          show _ = _
          have := Hst.out
          rw [if_neg h2, hm.out] at this
          exact this
        clear h2 Hst
        go_wp2
        go_round
        case rel => exact ⟨k + 1, m + s[k].toNat, by omega, Hst2, by rw [← Hst2.out]; exact Hle.out, by go_num, by go_num⟩
        case measure => simp [intOf]; omega
    · obtain rfl : k = s.size := by omega
      have hfin : SW s.data.toList = m := by
        have := hm.out
        rwa [List.take_of_length_le (by rw [size_toList]; exact Nat.le_refl _)] at this
      have Hfin := Lib.hid hfin
      clear hfin hm
      go_wp2
      go_loop [3] (fun n => ∃ q : Nat, q ≤ 65536 * s.size ∧ Hid (foldC q = foldC m) ∧ n = .int .i64 q) (fun n => (intOf n).toNat)
      case atStart => exact ⟨m, hml, rfl, rfl⟩
      case round =>
        obtain ⟨q, hq, hf, rfl⟩ := hrel
        by_cases hgt : 65535 < q
        · have hstep := Lib.hid (foldC_step hgt)
          go_wp2
          go_round
          case rel => exact ⟨q % 65536 + q / 65536, by omega, by show _ = _; rw [hstep.out]; exact hf.out, by go_num⟩
          case measure => simp [intOf]; omega
        · have hle : q ≤ 65535 := by omega
          clear hgt
          go_wp2
          go_ret
          refine ⟨ret_int ?_, rfl⟩
          have h5 := hf.out
          rw [foldC_done hle] at h5
          rw [sumN_eq, Hfin.out, ← h5]
          omega

/-! ### CRC32 -/
theorem xor_i64 (a b : Nat) (ha : a < 4294967296) (hb : b < 4294967296) : bits .xor .i64 (a : Int) (b : Int) = ((a ^^^ b : Nat) : Int) := by
  have hx : a ^^^ b < 4294967296 := xor_lt32 ha hb
  have e : ∀ c : Nat, c < 4294967296 → (BitVec.ofInt 64 (c : Int)).toNat = c := fun c hc => by
    rw [BitVec.ofInt_natCast, BitVec.toNat_ofNat]; exact Nat.mod_eq_of_lt (by omega)
  show IntKind.i64.wrap ((BitVec.ofInt 64 (a : Int) ^^^ BitVec.ofInt 64 (b : Int)).toNat : Int) = _
  rw [BitVec.toNat_xor, e a ha, e b hb]
  exact wraps_i64 _ (by omega) (by omega)
theorem stepN_odd {c : Nat} (h : c % 2 = 1) : stepN c = c / 2 ^^^ 3988292384 := by unfold stepN; rw [if_pos h]
theorem stepN_even {c : Nat} (h : c % 2 = 0) : stepN c = c / 2 := by unfold stepN; rw [if_neg (by omega), Nat.xor_zero]
theorem regN_take (s : ByteArray) (k : Nat) (h : k < s.size) : regN 4294967295 (s.data.toList.take (k + 1)) = it 8 (regN 4294967295 (s.data.toList.take k) ^^^ s[k].toNat) := by
  rw [take1_snoc s k h]
  unfold regN
  rw [List.foldl_append]
  rfl

set_option maxHeartbeats 1600000 in
theorem refCrc_any (s : ByteArray) (hs : s.size ≤ maxLen) (w : World) :
    Calls Try.prog 17 #[.string s] w fun e w' => e = .returned (.int .i64 ((crcN s.data.toList : Nat) : Int)) ∧ w = w' := by
  unfold maxLen at hs
  go_enter Try.func17, Try.ntmps17
  go_wp2
  go_loop [3, 4, 5] (fun c i _ => ∃ k r : Nat, k ≤ s.size ∧ Hid (regN 4294967295 (s.data.toList.take k) = r) ∧ r < 4294967296 ∧ c = .int .i64 r ∧ i = .int .i64 k) (fun _ i _ => s.size - (intOf i).toNat)
  case atStart => exact ⟨0, 4294967295, by omega, (show regN 4294967295 (List.take 0 s.data.toList) = 4294967295 from rfl), by omega, rfl, rfl⟩
  case round =>
    obtain ⟨k, r, hk, hr, hrl, rfl, rfl⟩ := hrel
    by_cases h : k < s.size
    · have hy := s[k].toNat_lt
      have hreg := Lib.hid (regN_take s k h)
      have hx := xor_i64 r s[k].toNat hrl (by omega)
      have hxl : r ^^^ s[k].toNat < 4294967296 := xor_lt32 hrl (by omega)
      obtain ⟨r1, hr1⟩ : ∃ r1, r ^^^ s[k].toNat = r1 := ⟨_, rfl⟩
      rw [hr1] at hx hxl
      have Hr1 := Lib.hid hr1
      clear hr1
      go_wp2
      go_loop [3, 5] (fun c i => ∃ j q : Nat, j ≤ 8 ∧ Hid (it j r1 = q) ∧ q < 4294967296 ∧ c = .int .i64 q ∧ i = .int .i64 j) (fun _ i => 8 - (intOf i).toNat)
      case atStart => exact ⟨0, r1, by omega, (show it 0 r1 = r1 from rfl), hxl, rfl, rfl⟩
      case round =>
        obtain ⟨j, q, hj, hq, hql, rfl, rfl⟩ := hrel
        by_cases hj8 : j < 8
        · rcases Nat.mod_two_eq_zero_or_one q with h2 | h2
          · have t1 : ((q : Int) % 2 == 1) = false := by rw [beq_eq_false_iff_ne]; omega
            have hst : Hid (it (j + 1) r1 = q / 2) := by show stepN (it j r1) = _; rw [hq.out, stepN_even h2]
            clear h2
            go_wp2
            go_round
            case rel => exact ⟨j + 1, q / 2, by omega, hst, by omega, by go_num, by go_num⟩
            case measure => simp [intOf]; omega
          · have t1 : ((q : Int) % 2 == 1) = true := by rw [beq_iff_eq]; omega
            have hst : Hid (it (j + 1) r1 = q / 2 ^^^ 3988292384) := by show stepN (it j r1) = _; rw [hq.out, stepN_odd h2]
            have hxx := xor_i64 (q / 2) 3988292384 (by omega) (by decide)
            have hxx2 : bits .xor .i64 ((q : Int) / 2) 3988292384 = ((q / 2 ^^^ 3988292384 : Nat) : Int) := by
              rw [← hxx, Int.natCast_ediv]; rfl
            have hl : q / 2 ^^^ 3988292384 < 4294967296 := xor_lt32 (by omega) (by decide)
            obtain ⟨q2, hq2⟩ : ∃ q2, q / 2 ^^^ 3988292384 = q2 := ⟨_, rfl⟩
            rw [hq2] at hst hxx2 hl
            clear h2 hxx hq2
            go_wp2
            go_round
            case rel => exact ⟨j + 1, q2, by omega, hst, hl, by go_num, by go_num⟩
            case measure => simp [intOf]; omega
        · obtain rfl : j = 8 := by omega
          have hnew : Hid (regN 4294967295 (s.data.toList.take (k + 1)) = q) := by
            show _ = _
            rw [hreg.out, hr.out, Hr1.out, hq.out]
          go_wp2
          go_round
          case rel => exact ⟨k + 1, q, by omega, hnew, hql, by go_num, by go_num⟩
          case measure => simp [intOf]; omega
    · obtain rfl : k = s.size := by omega
      have hfin : Hid (crcN s.data.toList = r ^^^ 4294967295) := by
        have := hr.out
        rw [List.take_of_length_le (by rw [size_toList]; exact Nat.le_refl _)] at this
        show crcN _ = _
        unfold crcN
        rw [this, Nat.xor_comm]
      have hxx := xor_i64 r 4294967295 hrl (by decide)
      have hxx2 : bits .xor .i64 (r : Int) 4294967295 = ((r ^^^ 4294967295 : Nat) : Int) := hxx
      clear hxx
      go_wp2
      go_ret
      exact ⟨ret_int (by rw [hfin.out]), rfl⟩
end Go.Proofs.Ytolohjinjpegmaa

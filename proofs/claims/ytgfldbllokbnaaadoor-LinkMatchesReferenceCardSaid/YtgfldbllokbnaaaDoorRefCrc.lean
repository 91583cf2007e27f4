/- Contracts of the reference implementation of layer 1: CRC32; and what the CRC tells of one byte. -/
import Derived.Test.YtgfldbllokbnaaaDoorRefGet
namespace Go.Proofs.YtgfldbllokbnaaaDoor
open Go.RowKit

theorem take1_snoc (s : ByteArray) (j : Nat) (h : j < s.size) : s.data.toList.take (j + 1) = s.data.toList.take j ++ [s[j]] := by
  rw [List.take_succ_eq_append_getElem (by rw [size_toList]; omega)]
  rfl
/-! ### CRC32 -/
theorem xor_i64 (a b : Nat) (ha : a < 4294967296) (hb : b < 4294967296) : bits .xor .i64 (a : Int) (b : Int) = ((a ^^^ b : Nat) : Int) := by
  have hx : a ^^^ b < 4294967296 := xor_lt32 ha hb
  have e : ∀ c : Nat, c < 4294967296 → (BitVec.ofInt 64 (c : Int)).toNat = c := fun c hc => by
    rw [BitVec.ofInt_natCast, BitVec.toNat_ofNat]; exact Nat.mod_eq_of_lt (by omega)
  show IntKind.i64.wrap ((BitVec.ofInt 64 (a : Int) ^^^ BitVec.ofInt 64 (b : Int)).toNat : Int) = _
  rw [BitVec.toNat_xor, e a ha, e b hb]
  exact wraps_i64 _ (by omega) (by omega)
theorem stepN_odd {c : Nat} (h : c % 2 = 1) : stepN c = c / 2 ^^^ 3988292384 := by unfold stepN; rw [if_pos h]
theorem stepN_even {c : Nat} (h : c % 2 = 0) : stepN c = c / 2 := by unfold stepN; rw [if_neg (by omega), Nat.xor_zero]
theorem regN_take (s : ByteArray) (k : Nat) (h : k < s.size) : regN 4294967295 (s.data.toList.take (k + 1)) = it 8 (regN 4294967295 (s.data.toList.take k) ^^^ s[k].toNat) := by
  rw [take1_snoc s k h]
  unfold regN
  rw [List.foldl_append]
  rfl

set_option maxHeartbeats 1600000 in
theorem refCrc_any (s : ByteArray) (hs : s.size ≤ maxLen) (w : World) :
    Calls Tryd.prog 26 #[.string s] w fun e w' => e = .returned (.int .i64 ((crcN s.data.toList : Nat) : Int)) ∧ w = w' := by
  unfold maxLen at hs
  go_enter Tryd.func26, Tryd.ntmps26
  go_wp2
  go_loop [3, 4, 5] (fun c i _ => ∃ k r : Nat, k ≤ s.size ∧ Hid (regN 4294967295 (s.data.toList.take k) = r) ∧ r < 4294967296 ∧ c = .int .i64 r ∧ i = .int .i64 k) (fun _ i _ => s.size - (intOf i).toNat)
  case atStart => exact ⟨0, 4294967295, by omega, (show regN 4294967295 (List.take 0 s.data.toList) = 4294967295 from rfl), by omega, rfl, rfl⟩
  case round =>
    obtain ⟨k, r, hk, hr, hrl, rfl, rfl⟩ := hrel
    by_cases h : k < s.size
    · have hy := s[k].toNat_lt
      have hreg := Lib.hid (regN_take s k h)
      have hx := xor_i64 r s[k].toNat hrl (by omega)
      have hxl : r ^^^ s[k].toNat < 4294967296 := xor_lt32 hrl (by omega)
      obtain ⟨r1, hr1⟩ : ∃ r1, r ^^^ s[k].toNat = r1 := ⟨_, rfl⟩
      rw [hr1] at hx hxl
      have Hr1 := Lib.hid hr1
      clear hr1
      go_wp2
      go_loop [3, 5] (fun c i => ∃ j q : Nat, j ≤ 8 ∧ Hid (it j r1 = q) ∧ q < 4294967296 ∧ c = .int .i64 q ∧ i = .int .i64 j) (fun _ i => 8 - (intOf i).toNat)
      case atStart => exact ⟨0, r1, by omega, (show it 0 r1 = r1 from rfl), hxl, rfl, rfl⟩
      case round =>
        obtain ⟨j, q, hj, hq, hql, rfl, rfl⟩ := hrel
        by_cases hj8 : j < 8
        · rcases Nat.mod_two_eq_zero_or_one q with h2 | h2
          · have t1 : ((q : Int) % 2 == 1) = false := by rw [beq_eq_false_iff_ne]; omega
            have hst : Hid (it (j + 1) r1 = q / 2) := by show stepN (it j r1) = _; rw [hq.out, stepN_even h2]
            clear h2
            go_wp2
            go_round
            case rel => exact ⟨j + 1, q / 2, by omega, hst, by omega, by go_num, by go_num⟩
            case measure => simp [intOf]; omega
          · have t1 : ((q : Int) % 2 == 1) = true := by rw [beq_iff_eq]; omega
            have hst : Hid (it (j + 1) r1 = q / 2 ^^^ 3988292384) := by show stepN (it j r1) = _; rw [hq.out, stepN_odd h2]
            have hxx := xor_i64 (q / 2) 3988292384 (by omega) (by decide)
            have hxx2 : bits .xor .i64 ((q : Int) / 2) 3988292384 = ((q / 2 ^^^ 3988292384 : Nat) : Int) := by
              rw [← hxx, Int.natCast_ediv]; rfl
            have hl : q / 2 ^^^ 3988292384 < 4294967296 := xor_lt32 (by omega) (by decide)
            obtain ⟨q2, hq2⟩ : ∃ q2, q / 2 ^^^ 3988292384 = q2 := ⟨_, rfl⟩
            rw [hq2] at hst hxx2 hl
            clear h2 hxx hq2
            go_wp2
            go_round
            case rel => exact ⟨j + 1, q2, by omega, hst, hl, by go_num, by go_num⟩
            case measure => simp [intOf]; omega
        · obtain rfl : j = 8 := by omega
          have hnew : Hid (regN 4294967295 (s.data.toList.take (k + 1)) = q) := by
            show _ = _
            rw [hreg.out, hr.out, Hr1.out, hq.out]
          go_wp2
          go_round
          case rel => exact ⟨k + 1, q, by omega, hnew, hql, by go_num, by go_num⟩
          case measure => simp [intOf]; omega
    · obtain rfl : k = s.size := by omega
      have hfin : Hid (crcN s.data.toList = r ^^^ 4294967295) := by
        have := hr.out
        rw [List.take_of_length_le (by rw [size_toList]; exact Nat.le_refl _)] at this
        show crcN _ = _
        unfold crcN
        rw [this, Nat.xor_comm]
      have hxx := xor_i64 r 4294967295 hrl (by decide)
      have hxx2 : bits .xor .i64 (r : Int) 4294967295 = ((r ^^^ 4294967295 : Nat) : Int) := hxx
      clear hxx
      go_wp2
      go_ret
      exact ⟨ret_int (by rw [hfin.out]), rfl⟩
/-- the register is one to one in what lies ahead of a string -/
theorem regN_inj : ∀ (l : List UInt8) (a b : Nat), a < 4294967296 → b < 4294967296 → regN a l = regN b l → a = b
  | [], _, _, _, _, h => h
  | x :: l, a, b, ha, hb, h => by
    have h1 := regN_inj l (byteN a x) (byteN b x) (byteN_lt ha x) (byteN_lt hb x) h
    have h2 := it_inj (xor_lt32 ha (u8_lt32 x)) (xor_lt32 hb (u8_lt32 x)) 8 h1
    have := congrArg (· ^^^ x.toNat) h2
    simpa [Nat.xor_assoc] using this
theorem byteN_inj {c : Nat} (hc : c < 4294967296) {x y : UInt8} (h : byteN c x = byteN c y) : x = y := by
  have h2 := it_inj (xor_lt32 hc (u8_lt32 x)) (xor_lt32 hc (u8_lt32 y)) 8 h
  have := congrArg (c ^^^ ·) h2
  simp only [← Nat.xor_assoc, Nat.xor_self, Nat.zero_xor] at this
  exact UInt8.toNat_inj.1 this
/-- one byte turned: the CRC tells -/
theorem crc_one (P Q : List UInt8) (x y : UInt8) : crcN (P ++ x :: Q) = crcN (P ++ y :: Q) ↔ x = y := by
  constructor
  · intro h
    unfold crcN at h
    have h1 : regN 4294967295 (P ++ x :: Q) = regN 4294967295 (P ++ y :: Q) := by
      have := congrArg (4294967295 ^^^ ·) h
      simpa [← Nat.xor_assoc] using this
    have e : ∀ z, regN 4294967295 (P ++ z :: Q) = regN (byteN (regN 4294967295 P) z) Q := fun z => by
      unfold regN; rw [List.foldl_append, List.foldl_cons]
    rw [e, e] at h1
    have hp := regN_lt P (c := 4294967295) (by decide)
    exact byteN_inj hp (regN_inj Q _ _ (byteN_lt hp x) (byteN_lt hp y) h1)
  · rintro rfl; rfl
end Go.Proofs.YtgfldbllokbnaaaDoor

/- wire.CRC32 once more: the world behind it, exactly: one new block. -/
import Derived.Test.YtgfldbllokbnaaaDoorCrc
namespace Go.Proofs.YtgfldbllokbnaaaDoor
open Go.RowKit

set_option maxHeartbeats 800000 in
theorem crcUpd_exact (b : UInt8) (c : Nat) (hc : c < 4294967296) (w : World) :
    Calls Tryd.prog 32 #[.int .u8 (b.toNat : Int), .pointer (some ⟨w.heap.size, 0, none⟩)] (w.alloc (.cells #[.int .u32 (c : Int)] 65)) fun e w' => e = .returned (.tuple #[]) ∧ w' = w.alloc (.cells #[.int .u32 ((byteN c b : Nat) : Int)] 65) := by
  have hb := b.toNat_lt
  go_enter Tryd.func32, Tryd.ntmps32
  go_wp2
  go_loopw [7] (fun i wr => ∃ k q : Nat, k ≤ 8 ∧ i = .int .i64 k ∧ q < 4294967296 ∧ Hid (it k (c ^^^ b.toNat) = q) ∧ wr = w.alloc (.cells #[.int .u32 (q : Int)] 65)) (fun i _ => 8 - (intOf i).toNat)
  case atStart =>
    refine ⟨0, c ^^^ b.toNat, by omega, rfl, xor_lt32 hc (u8_lt32 b), (show it 0 _ = _ from rfl), ?_⟩
    rw [u32_xor_nat c b.toNat hc (u8_lt32 b)]
  case round =>
    obtain ⟨k, q, hk, rfl, hql, hq, rfl⟩ := hrel
    by_cases h8 : k < 8
    · have hst := step_go _ hql
      have hlt := stepN_lt hql
      obtain ⟨q2, hq2⟩ : ∃ q2, stepN q = q2 := ⟨_, rfl⟩
      have hnew : Hid (it (k + 1) (c ^^^ b.toNat) = q2) := by show stepN (it k _) = _; rw [hq.out, hq2]
      rw [hq2] at hst hlt
      have Hs := Lib.hid hst
      clear hst hq2
      go_wp2
      go_roundw
      case rel => exact ⟨k + 1, q2, by omega, by go_num, hlt, hnew, by rw [Hs.out]⟩
      case measure => simp [intOf]; omega
    · obtain rfl : k = 8 := by omega
      go_wp2
      go_end0
      exact ⟨rfl, by unfold byteN; rw [hq.out]⟩

set_option maxHeartbeats 800000 in
theorem crc_exact (s : ByteArray) (hs : s.size ≤ maxLen) (w : World) :
    Calls Tryd.prog 22 #[.string s] w fun e w' => e = .returned (.int .i64 ((crcN s.data.toList : Nat) : Int)) ∧ w' = w.alloc (.cells #[.int .u32 ((regN 4294967295 s.data.toList : Nat) : Int)] 65) := by
  unfold maxLen at hs
  have hmf : ∀ (fn : Fn) (first cap : Array Value) (w : World), (Instr.makeFunc fn first cap).run Tryd.prog w = .ok (.func fn first cap) w := fun _ _ _ _ => rfl
  go_enter Tryd.func22, Tryd.ntmps22
  go_wp2
  go_loopw [9] (fun i wr => ∃ k q : Nat, k ≤ s.size ∧ i = .int .i64 k ∧ q < 4294967296 ∧ Hid (regN 4294967295 (s.data.toList.take k) = q) ∧ wr = w.alloc (.cells #[.int .u32 (q : Int)] 65)) (fun i _ => s.size - (intOf i).toNat)
  case atStart => exact ⟨0, 4294967295, by omega, rfl, by decide, (show regN 4294967295 (List.take 0 s.data.toList) = 4294967295 from rfl), rfl⟩
  case round =>
    obtain ⟨k, q, hk, rfl, hql, hq, rfl⟩ := hrel
    by_cases h8 : k < s.size
    · have Hts : Hid (regN 4294967295 (s.data.toList.take (k + 1)) = byteN q s[k]) := by show _ = _; rw [regN_snoc s k h8, hq.out]
      have hlt := byteN_lt hql s[k]
      go_wp2_with (go_at_call 32; refine (crcUpd_exact _ q hql w).mono ?_; rintro e w2 ⟨rfl, rfl⟩)
      go_roundw
      case rel => exact ⟨k + 1, _, by omega, by go_num, hlt, Hts, rfl⟩
      case measure => simp [intOf]; omega
    · obtain rfl : k = s.size := by omega
      have hce := crc_end s
      rw [hq.out] at hce
      have hqe := hq.out
      rw [List.take_of_length_le (by simp)] at hqe
      have Hce := Lib.hid hce
      have Hqe := Lib.hid hqe
      clear hce hqe
      go_wp2
      go_ret
      exact ⟨ret_int Hce.out, by rw [Hqe.out]⟩
end Go.Proofs.YtgfldbllokbnaaaDoor

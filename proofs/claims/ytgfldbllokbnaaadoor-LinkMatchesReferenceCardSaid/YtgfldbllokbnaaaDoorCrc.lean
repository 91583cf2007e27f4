/- Contract of wire.CRC32. -/
import Derived.Test.YtgfldbllokbnaaaDoorCrcMath
import Derived.Test.YtgfldbllokbnaaaDoorPick
namespace Go.Proofs.YtgfldbllokbnaaaDoor
open Go.RowKit

set_option maxHeartbeats 800000 in
/-- the closure: one byte -/
theorem crcUpd (b : UInt8) (c B : Nat) (hc : c < 4294967296) (w : World) (h : w.cell? ⟨B, 0, none⟩ = some (.int .u32 (c : Int))) (hf : w.frozen? ⟨B, 0, none⟩ = false) :
    Calls Tryd.prog 32 #[.int .u8 (b.toNat : Int), .pointer (some ⟨B, 0, none⟩)] w fun e w' => e = .returned (.tuple #[]) ∧ w'.cell? ⟨B, 0, none⟩ = some (.int .u32 ((byteN c b : Nat) : Int)) ∧ w'.frozen? ⟨B, 0, none⟩ = false ∧ Below B w w' := by
  have hb := b.toNat_lt
  go_enter Tryd.func32, Tryd.ntmps32
  go_wp2
  go_loopw [7] (fun i wr => ∃ k : Nat, k ≤ 8 ∧ i = .int .i64 k ∧ wr.cell? ⟨B, 0, none⟩ = some (.int .u32 ((it k (c ^^^ b.toNat) : Nat) : Int)) ∧ wr.frozen? ⟨B, 0, none⟩ = false ∧ Below B w wr) (fun i _ => 8 - (intOf i).toNat)
  case atStart =>
    refine ⟨0, by omega, rfl, ?_, ?_, (Below.refl B w).setCell (p := ⟨B, 0, none⟩) (Nat.le_refl _) _⟩
    · rw [World.cell?_setCell_same' _ _ _ (by rw [h]; rfl), u32_xor_nat c b.toNat hc (u8_lt32 b)]; rfl
    · rw [World.frozen?_setCell]; exact hf
  case round =>
    obtain ⟨k, hk, rfl, hcell, hfr, hbe⟩ := hrel
    have hlt := it_lt (xor_lt32 hc (u8_lt32 b)) k
    have hst := step_go _ hlt
    have hsame := fun u => World.cell?_setCell_same' wr ⟨B, 0, none⟩ u (by rw [hcell]; rfl)
    have Hs := Lib.hid hst
    clear hst
    by_cases h8 : k < 8
    · go_wp2
      go_roundw
      case rel => exact ⟨k + 1, by omega, by go_num, by rw [hsame, Hs.out]; rfl, by rw [World.frozen?_setCell]; exact hfr, hbe.setCell (p := ⟨B, 0, none⟩) (Nat.le_refl _) _⟩
      case measure => simp [intOf]; omega
    · obtain rfl : k = 8 := by omega
      go_wp2
      go_end0
      exact ⟨rfl, hcell, hfr, hbe⟩

theorem regN_snoc (s : ByteArray) (k : Nat) (h : k < s.size) : regN 4294967295 (s.data.toList.take (k + 1)) = byteN (regN 4294967295 (s.data.toList.take k)) s[k] := by
  rw [List.take_succ_eq_append_getElem (by simpa using h)]
  unfold regN
  rw [List.foldl_append]
  rfl

theorem crc_end (s : ByteArray) : wrap64 (bits .xor .u32 IntKind.u32.max ((regN 4294967295 (s.data.toList.take s.size) : Nat) : Int)) = ((crcN s.data.toList : Nat) : Int) := by
  rw [List.take_of_length_le (by simp)]
  have h := regN_lt s.data.toList (c := 4294967295) (by decide)
  have := crcN_lt s.data.toList
  rw [show IntKind.u32.max = ((4294967295 : Nat) : Int) from rfl, u32_xor_nat _ _ (by decide) h]
  exact wrap64_id _ (by omega) (by unfold crcN at this; omega)

set_option maxHeartbeats 800000 in
theorem crc_any (s : ByteArray) (hs : s.size ≤ maxLen) (w : World) :
    Calls Tryd.prog 22 #[.string s] w fun e w' => e = .returned (.int .i64 ((crcN s.data.toList : Nat) : Int)) ∧ Below w.heap.size w w' := by
  unfold maxLen at hs
  have hmf : ∀ (fn : Fn) (first cap : Array Value) (w : World), (Instr.makeFunc fn first cap).run Tryd.prog w = .ok (.func fn first cap) w := fun _ _ _ _ => rfl
  go_enter Tryd.func22, Tryd.ntmps22
  go_wp2
  go_loopw [9] (fun i wr => ∃ k : Nat, k ≤ s.size ∧ i = .int .i64 k ∧ wr.cell? ⟨w.heap.size, 0, none⟩ = some (.int .u32 ((regN 4294967295 (s.data.toList.take k) : Nat) : Int)) ∧ wr.frozen? ⟨w.heap.size, 0, none⟩ = false ∧ Below w.heap.size w wr) (fun i _ => s.size - (intOf i).toNat)
  case atStart =>
    exact ⟨0, by omega, rfl, by rw [World.cell?_alloc_new]; rfl, by rw [World.frozen?_alloc_new], (Below.refl _ w).alloc (Nat.le_refl _) _⟩
  case round =>
    obtain ⟨k, hk, rfl, hcell, hfr, hbe⟩ := hrel
    have hlt := regN_lt (s.data.toList.take k) (c := 4294967295) (by decide)
    by_cases h8 : k < s.size
    · have hup := fun b => crcUpd b _ w.heap.size hlt wr hcell hfr
      have Hup := Lib.hid hup
      clear hup
      have Hts := Lib.hid (regN_snoc s k h8)
      go_wp2_with (go_at_call 32; refine (Hup.out _).mono ?_; rintro e w2 ⟨rfl, hc2, hf2, hb2⟩)
      go_roundw
      case rel => exact ⟨k + 1, by omega, by go_num, by rw [Hts.out]; exact hc2, hf2, hbe.trans hb2⟩
      case measure => simp [intOf]; omega
    · obtain rfl : k = s.size := by omega
      go_wp2
      go_ret
      exact ⟨ret_int (crc_end s), hbe⟩
end Go.Proofs.YtgfldbllokbnaaaDoor

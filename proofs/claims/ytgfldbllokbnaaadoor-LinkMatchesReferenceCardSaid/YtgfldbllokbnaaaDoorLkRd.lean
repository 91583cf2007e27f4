/- Contracts of the reader: number, sumOf, next. -/
import Derived.Test.YtgfldbllokbnaaaDoorLkIs
import Derived.Test.YtgfldbllokbnaaaDoorCrcExact
import Derived.Test.YtgfldbllokbnaaaDoorRefGet
import Derived.BigRegion
import Derived.Deep.RegionHeld3
namespace Go.Proofs.YtgfldbllokbnaaaDoor
open Go.RowKit
attribute [local go_sem] Oper.semAt_some

/-- the number of b bytes at k -/
def rdV (s : ByteArray) (k b : Nat) : Int := beVal ((s.data.toList.drop k).take b)
theorem rdV_bd (s : ByteArray) (k b : Nat) (h : k + b ≤ s.size) : 0 ≤ rdV s k b ∧ rdV s k b < 256 ^ b :=
  beVal_bd b _ (by rw [List.length_take, List.length_drop, size_toList]; omega)

theorem number_ok (s : ByteArray) (k b : Nat) (w : World) (hb1 : 1 ≤ b) (hb2 : b ≤ 4) (hk : k + b ≤ s.size) (hs : s.size ≤ maxLen) :
    Calls Tryd.prog 37 #[.string s, .int .i64 (k : Int), .int .i64 (b : Int)] w fun e w' => e = .returned (.tuple #[.int .i64 (rdV s k b), .nilIface]) ∧ Below w.heap.size w w' := by
  go_enter Tryd.func37, Tryd.ntmps37
  go_wp2_with fail
  refine (get_any s k b _ (by omega) (by omega) (by omega) (by omega) hs).mono ?_
  rintro e w1 ⟨rfl, hb⟩
  go_wp2
  go_ret2
  exact ⟨rfl, hb⟩

theorem number_no (s : ByteArray) (k b : Nat) (w : World) (a : Addr) (E : Env w a) (hk : s.size < k + b) (hs : s.size ≤ maxLen) :
    Calls Tryd.prog 37 #[.string s, .int .i64 (k : Int), .int .i64 (b : Int)] w fun e w' => e = .returned (.tuple #[.int .i64 0, .iface 93 (.pointer (some a))]) ∧ Below w.heap.size w w' := by
  go_enter Tryd.func37, Tryd.ntmps37
  go_wp2_with fail
  refine (get_no s k b _ hs (by omega)).mono ?_
  rintro e w1 ⟨rfl, rfl⟩
  unfold Env at E
  go_wp2
  go_region
  go_wp2
  go_ret2
  exact ⟨rfl, (Below.refl _ _).drew⟩

theorem sumOf_any (s : ByteArray) (k : Nat) (w : World) (hk : k ≤ s.size) (hs : s.size ≤ maxLen) :
    Calls Tryd.prog 38 #[.string s, .int .i64 (k : Int)] w fun e w' => e = .returned (.int .i64 ((crcN (s.data.toList.take k) : Nat) : Int)) ∧ Below w.heap.size w w' := by
  have hx : (s.extract 0 k).size ≤ maxLen := by rw [ByteArray.size_extract]; omega
  go_enter Tryd.func38, Tryd.ntmps38
  go_wp2_with fail
  refine (crc_any _ hx _).mono ?_
  rintro e w1 ⟨rfl, hb⟩
  go_wp2
  go_ret
  exact ⟨rfl, hb⟩

/-- the reader in memory -/
abbrev ro (s : ByteArray) (k : Nat) : Obj := .cells #[.string s, .int .i64 (k : Int)] 55

theorem next_ok (s : ByteArray) (k b R : Nat) (w : World) (hR : w.heap[R]? = some (ro s k)) (hb1 : 1 ≤ b) (hb2 : b ≤ 4) (hk : k + b ≤ s.size) (hs : s.size ≤ maxLen) :
    Calls Tryd.prog 44 #[.pointer (some ⟨R, 0, none⟩), .int .i64 (b : Int)] w fun e w' => e = .returned (.tuple #[.int .i64 (rdV s k b), .nilIface]) ∧
      ∃ w1, Below w.heap.size w w1 ∧ w' = w1.setCell ⟨R, 1, none⟩ (.int .i64 ((k + b : Nat) : Int)) := by
  have hRl := blk_lt hR
  obtain ⟨c0, f0⟩ := blk_cell (k := 0) hR rfl
  obtain ⟨c1, f1⟩ := blk_cell (k := 1) hR rfl
  unfold maxLen at hs
  go_enter Tryd.func44, Tryd.ntmps44
  go_wp2
  go_region_held3 (fun w' => w'.cell? ⟨R, 0, none⟩ = some (.string s) ∧ w'.cell? ⟨R, 1, none⟩ = some (.int .i64 (k : Int)))
    (first | exact ⟨c0, c1⟩ | exact ⟨(hb.cell (p := ⟨R, 0, none⟩) hRl).trans c0, (hb.cell (p := ⟨R, 1, none⟩) hRl).trans c1⟩)
    ((go_at_call 37; refine (number_ok s k b _ hb1 hb2 hk (by unfold maxLen; omega)).mono ?_; rintro e w2 ⟨rfl, hb⟩))
  have hB2 : Below w.heap.size w w2 := (Below.refl _ w).drew.trans hb
  have d1 := (hB2.cell (p := ⟨R, 1, none⟩) hRl).trans c1
  have g1 := (hB2.frozen (p := ⟨R, 1, none⟩) hRl).trans f1
  go_wp2
  go_ret2
  exact ⟨rfl, w2, hB2, by simp⟩

theorem next_no (s : ByteArray) (k b R : Nat) (w : World) (a : Addr) (E : Env w a) (hR : w.heap[R]? = some (ro s k)) (hb2 : b ≤ 4) (hk : s.size < k + b) (hkm : k ≤ 100000) (hs : s.size ≤ maxLen) :
    Calls Tryd.prog 44 #[.pointer (some ⟨R, 0, none⟩), .int .i64 (b : Int)] w fun e w' => e = .returned (.tuple #[.int .i64 0, .iface 93 (.pointer (some a))]) ∧
      ∃ w1, Below w.heap.size w w1 ∧ w' = w1.setCell ⟨R, 1, none⟩ (.int .i64 ((k + b : Nat) : Int)) := by
  have hRl := blk_lt hR
  obtain ⟨c0, f0⟩ := blk_cell (k := 0) hR rfl
  obtain ⟨c1, f1⟩ := blk_cell (k := 1) hR rfl
  have E' : Env w.drew a := E
  go_enter Tryd.func44, Tryd.ntmps44
  go_wp2
  go_region_held3 (fun w' => w'.cell? ⟨R, 0, none⟩ = some (.string s) ∧ w'.cell? ⟨R, 1, none⟩ = some (.int .i64 (k : Int)))
    (first | exact ⟨c0, c1⟩ | exact ⟨(hb.cell (p := ⟨R, 0, none⟩) hRl).trans c0, (hb.cell (p := ⟨R, 1, none⟩) hRl).trans c1⟩)
    ((go_at_call 37; refine (number_no s k b _ a E' hk hs).mono ?_; rintro e w2 ⟨rfl, hb⟩))
  have hB2 : Below w.heap.size w w2 := (Below.refl _ w).drew.trans hb
  have d1 := (hB2.cell (p := ⟨R, 1, none⟩) hRl).trans c1
  have g1 := (hB2.frozen (p := ⟨R, 1, none⟩) hRl).trans f1
  go_wp2
  go_ret2
  exact ⟨rfl, w2, hB2, by simp⟩
end Go.Proofs.YtgfldbllokbnaaaDoor

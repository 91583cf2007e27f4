/- Contracts of wire.Get. -/
import Derived.Test.YtidjbpglpobigaaDoorPut
import Derived.StillTailTactics
import Derived.Lib.BufferWrite
namespace Go.Proofs.YtidjbpglpobigaaDoor
open Go.RowKit

/-- the number that bytes encode, the greatest first -/
def beVal (l : List UInt8) : Int := l.foldl (fun a y => a * 256 + (y.toNat : Int)) 0
theorem ret2_int {a b : Int} {v : Value} (h : a = b) : Ending.returned (.tuple #[.int .i64 a, v]) = .returned (.tuple #[.int .i64 b, v]) := by rw [h]
theorem size_of_list' {s : ByteArray} {l : List UInt8} (h : s.data.toList = l) : s.size = l.length := by rw [← h]; rfl

/-- copy of a whole string into a row of the call's own -/
theorem copy_string_own {P : Program} {w0 w : World} (dT sT ty elem : TypeId) (g o dLen dCap : Nat) (s : ByteArray) (l : List UInt8) (hl : s.data.toList = l) (cur : Array Value) (t : TypeId)
    (hu : P.underlying dT = some (.slice elem)) (hs : (P.info? elem).map (·.size) = some 1) (hg : w.heap[g]? = some (.cells cur t (0, 0))) (hle : l.length ≤ dLen) (hfit : o + l.length ≤ cur.size)
    (hb : Below w0.heap.size w0 w) (hBg : w0.heap.size ≤ g) :
    ∃ w', (Builtin.copy_ #[dT, sT] ty #[.slice (some ⟨g, o, none⟩) dLen dCap, .string s]).run P w = .ok (goInt l.length) w' ∧
      w'.heap[g]? = some (.cells (cur.toList.take o ++ l.map (fun b : UInt8 => Value.int .u8 (b.toNat : Int)) ++ cur.toList.drop (o + l.length)).toArray t (0, 0)) ∧ Below w0.heap.size w0 w' := by
  have hz := size_of_list' hl
  have := Lib.run_copy_row_string (P := P) w dT sT ty elem g o dLen dCap s cur t hu hs hg (by omega) (by omega)
  rw [hz, hl] at this
  exact ⟨_, this, setRow_heap w g cur _ t (0, 0) hg, below_setRow hb hBg _⟩


set_option maxHeartbeats 800000 in
set_option maxRecDepth 20000 in
theorem get_1 (s : ByteArray) (k : Nat) (y0 : UInt8) (w : World) (hk : k + 1 ≤ s.size) (hs : s.size ≤ maxLen) (hy : (s.extract k (k + 1)).data.toList = [y0]) :
    Calls Tryd.prog 92 #[.string s, .int .i64 k, .int .i64 1] w fun e w' => e = .returned (.tuple #[.int .i64 (beVal [y0]), .int .i64 0]) ∧ Below w.heap.size w w' := by
  unfold maxLen at hs
  have t1 : decide ((k : Int) < 0) = false := by simp
  have t2 : decide ((s.size : Int) - 1 < k) = false := by simp; omega
  have r1 : IntKind.i64.wrap 3 = 3 := by decide
  have r2 : IntKind.i64.wrap ((k : Int) + 1) = (k : Int) + 1 := IntWalk.i64_in _ (by omega)
  have r3 : ((k : Int) + 1).toNat = k + 1 := by omega
  have r4 : 0 ≤ (k : Int) + 1 := by omega
  have hsl : ∀ wx, (Instr.slice 9 (.string s) (some (.int .i64 (k : Int))) (some (.int .i64 ((k : Int) + 1))) none).run Tryd.prog wx = .ok (.string (s.extract k (k + 1))) wx := fun wx => by
    have := run_slice_string (P := Tryd.prog) wx 9 s .i64 .i64 (k : Int) ((k : Int) + 1) Tryd.underlying9 (by omega) (by omega) (by omega)
    rwa [Int.toNat_natCast, r3] at this
  have Hy := Lib.hid hy
  clear hy
  go_enter Tryd.func92, Tryd.ntmps92
  go_wp2_with (go_at_call 98; refine (validWidth_yes _ _ (by omega) (by omega)).mono ?_; rintro e w' ⟨rfl, rfl⟩)
  go_still_tail 9, (by kernel_rfl)
  change wpList _ _ _ _ _ (World.drew _)
  have hb2 : Below w.heap.size w (w.alloc (.cells #[.int .u8 0, .int .u8 0, .int .u8 0, .int .u8 0] 165)).drew := ((Below.refl _ w).alloc (Nat.le_refl _) _).drew
  have hg2 : (w.alloc (.cells #[.int .u8 0, .int .u8 0, .int .u8 0, .int .u8 0] 165)).drew.heap[w.heap.size]? = some (.cells #[.int .u8 0, .int .u8 0, .int .u8 0, .int .u8 0] 165 (0, 0)) := heap_alloc_new w _
  generalize World.drew _ = w2 at hb2 hg2 ⊢
  obtain ⟨w3, hcp, hg3, hb3⟩ := copy_string_own (P := Tryd.prog) 47 9 3 5 w.heap.size 3 1 1 (s.extract k (k + 1)) _ Hy.out _ 165 Tryd.underlying47 (by kernel_rfl) hg2 (by simp) (by simp) hb2 (Nat.le_refl _)
  have c0 : w3.cell? ⟨w.heap.size, 0, none⟩ = some (.int .u8 0) := by rw [cell_of_row _ _ _ _ _ _ hg3]; rfl
  have c1 : w3.cell? ⟨w.heap.size, 1, none⟩ = some (.int .u8 0) := by rw [cell_of_row _ _ _ _ _ _ hg3]; rfl
  have c2 : w3.cell? ⟨w.heap.size, 2, none⟩ = some (.int .u8 0) := by rw [cell_of_row _ _ _ _ _ _ hg3]; rfl
  have c3 : w3.cell? ⟨w.heap.size, 3, none⟩ = some (.int .u8 (y0.toNat : Int)) := by rw [cell_of_row _ _ _ _ _ _ hg3]; rfl
  have hy0 := y0.toNat_lt
  clear hg2 hg3 hb2
  go_wp2_with (go_at_call 103; refine (join_any _ _ _ _ _ (by omega) (by omega) (by omega) (by omega) (by omega) (by omega) (by omega) (by omega)).mono ?_; rintro e w4 ⟨rfl, hb4⟩)
  go_ret2
  exact ⟨ret2_int (by simp only [beVal, List.foldl]; omega), hb3.trans (hb4.mono hb3.size)⟩

set_option maxHeartbeats 800000 in
set_option maxRecDepth 20000 in
theorem get_2 (s : ByteArray) (k : Nat) (y0 y1 : UInt8) (w : World) (hk : k + 2 ≤ s.size) (hs : s.size ≤ maxLen) (hy : (s.extract k (k + 2)).data.toList = [y0, y1]) :
    Calls Tryd.prog 92 #[.string s, .int .i64 k, .int .i64 2] w fun e w' => e = .returned (.tuple #[.int .i64 (beVal [y0, y1]), .int .i64 0]) ∧ Below w.heap.size w w' := by
  unfold maxLen at hs
  have t1 : decide ((k : Int) < 0) = false := by simp
  have t2 : decide ((s.size : Int) - 2 < k) = false := by simp; omega
  have r1 : IntKind.i64.wrap 2 = 2 := by decide
  have r2 : IntKind.i64.wrap ((k : Int) + 2) = (k : Int) + 2 := IntWalk.i64_in _ (by omega)
  have r3 : ((k : Int) + 2).toNat = k + 2 := by omega
  have r4 : 0 ≤ (k : Int) + 2 := by omega
  have hsl : ∀ wx, (Instr.slice 9 (.string s) (some (.int .i64 (k : Int))) (some (.int .i64 ((k : Int) + 2))) none).run Tryd.prog wx = .ok (.string (s.extract k (k + 2))) wx := fun wx => by
    have := run_slice_string (P := Tryd.prog) wx 9 s .i64 .i64 (k : Int) ((k : Int) + 2) Tryd.underlying9 (by omega) (by omega) (by omega)
    rwa [Int.toNat_natCast, r3] at this
  have Hy := Lib.hid hy
  clear hy
  go_enter Tryd.func92, Tryd.ntmps92
  go_wp2_with (go_at_call 98; refine (validWidth_yes _ _ (by omega) (by omega)).mono ?_; rintro e w' ⟨rfl, rfl⟩)
  go_still_tail 9, (by kernel_rfl)
  change wpList _ _ _ _ _ (World.drew _)
  have hb2 : Below w.heap.size w (w.alloc (.cells #[.int .u8 0, .int .u8 0, .int .u8 0, .int .u8 0] 165)).drew := ((Below.refl _ w).alloc (Nat.le_refl _) _).drew
  have hg2 : (w.alloc (.cells #[.int .u8 0, .int .u8 0, .int .u8 0, .int .u8 0] 165)).drew.heap[w.heap.size]? = some (.cells #[.int .u8 0, .int .u8 0, .int .u8 0, .int .u8 0] 165 (0, 0)) := heap_alloc_new w _
  generalize World.drew _ = w2 at hb2 hg2 ⊢
  obtain ⟨w3, hcp, hg3, hb3⟩ := copy_string_own (P := Tryd.prog) 47 9 3 5 w.heap.size 2 2 2 (s.extract k (k + 2)) _ Hy.out _ 165 Tryd.underlying47 (by kernel_rfl) hg2 (by simp) (by simp) hb2 (Nat.le_refl _)
  have c0 : w3.cell? ⟨w.heap.size, 0, none⟩ = some (.int .u8 0) := by rw [cell_of_row _ _ _ _ _ _ hg3]; rfl
  have c1 : w3.cell? ⟨w.heap.size, 1, none⟩ = some (.int .u8 0) := by rw [cell_of_row _ _ _ _ _ _ hg3]; rfl
  have c2 : w3.cell? ⟨w.heap.size, 2, none⟩ = some (.int .u8 (y0.toNat : Int)) := by rw [cell_of_row _ _ _ _ _ _ hg3]; rfl
  have c3 : w3.cell? ⟨w.heap.size, 3, none⟩ = some (.int .u8 (y1.toNat : Int)) := by rw [cell_of_row _ _ _ _ _ _ hg3]; rfl
  have hy0 := y0.toNat_lt
  have hy1 := y1.toNat_lt
  clear hg2 hg3 hb2
  go_wp2_with (go_at_call 103; refine (join_any _ _ _ _ _ (by omega) (by omega) (by omega) (by omega) (by omega) (by omega) (by omega) (by omega)).mono ?_; rintro e w4 ⟨rfl, hb4⟩)
  go_ret2
  exact ⟨ret2_int (by simp only [beVal, List.foldl]; omega), hb3.trans (hb4.mono hb3.size)⟩

set_option maxHeartbeats 800000 in
set_option maxRecDepth 20000 in
theorem get_3 (s : ByteArray) (k : Nat) (y0 y1 y2 : UInt8) (w : World) (hk : k + 3 ≤ s.size) (hs : s.size ≤ maxLen) (hy : (s.extract k (k + 3)).data.toList = [y0, y1, y2]) :
    Calls Tryd.prog 92 #[.string s, .int .i64 k, .int .i64 3] w fun e w' => e = .returned (.tuple #[.int .i64 (beVal [y0, y1, y2]), .int .i64 0]) ∧ Below w.heap.size w w' := by
  unfold maxLen at hs
  have t1 : decide ((k : Int) < 0) = false := by simp
  have t2 : decide ((s.size : Int) - 3 < k) = false := by simp; omega
  have r1 : IntKind.i64.wrap 1 = 1 := by decide
  have r2 : IntKind.i64.wrap ((k : Int) + 3) = (k : Int) + 3 := IntWalk.i64_in _ (by omega)
  have r3 : ((k : Int) + 3).toNat = k + 3 := by omega
  have r4 : 0 ≤ (k : Int) + 3 := by omega
  have hsl : ∀ wx, (Instr.slice 9 (.string s) (some (.int .i64 (k : Int))) (some (.int .i64 ((k : Int) + 3))) none).run Tryd.prog wx = .ok (.string (s.extract k (k + 3))) wx := fun wx => by
    have := run_slice_string (P := Tryd.prog) wx 9 s .i64 .i64 (k : Int) ((k : Int) + 3) Tryd.underlying9 (by omega) (by omega) (by omega)
    rwa [Int.toNat_natCast, r3] at this
  have Hy := Lib.hid hy
  clear hy
  go_enter Tryd.func92, Tryd.ntmps92
  go_wp2_with (go_at_call 98; refine (validWidth_yes _ _ (by omega) (by omega)).mono ?_; rintro e w' ⟨rfl, rfl⟩)
  go_still_tail 9, (by kernel_rfl)
  change wpList _ _ _ _ _ (World.drew _)
  have hb2 : Below w.heap.size w (w.alloc (.cells #[.int .u8 0, .int .u8 0, .int .u8 0, .int .u8 0] 165)).drew := ((Below.refl _ w).alloc (Nat.le_refl _) _).drew
  have hg2 : (w.alloc (.cells #[.int .u8 0, .int .u8 0, .int .u8 0, .int .u8 0] 165)).drew.heap[w.heap.size]? = some (.cells #[.int .u8 0, .int .u8 0, .int .u8 0, .int .u8 0] 165 (0, 0)) := heap_alloc_new w _
  generalize World.drew _ = w2 at hb2 hg2 ⊢
  obtain ⟨w3, hcp, hg3, hb3⟩ := copy_string_own (P := Tryd.prog) 47 9 3 5 w.heap.size 1 3 3 (s.extract k (k + 3)) _ Hy.out _ 165 Tryd.underlying47 (by kernel_rfl) hg2 (by simp) (by simp) hb2 (Nat.le_refl _)
  have c0 : w3.cell? ⟨w.heap.size, 0, none⟩ = some (.int .u8 0) := by rw [cell_of_row _ _ _ _ _ _ hg3]; rfl
  have c1 : w3.cell? ⟨w.heap.size, 1, none⟩ = some (.int .u8 (y0.toNat : Int)) := by rw [cell_of_row _ _ _ _ _ _ hg3]; rfl
  have c2 : w3.cell? ⟨w.heap.size, 2, none⟩ = some (.int .u8 (y1.toNat : Int)) := by rw [cell_of_row _ _ _ _ _ _ hg3]; rfl
  have c3 : w3.cell? ⟨w.heap.size, 3, none⟩ = some (.int .u8 (y2.toNat : Int)) := by rw [cell_of_row _ _ _ _ _ _ hg3]; rfl
  have hy0 := y0.toNat_lt
  have hy1 := y1.toNat_lt
  have hy2 := y2.toNat_lt
  clear hg2 hg3 hb2
  go_wp2_with (go_at_call 103; refine (join_any _ _ _ _ _ (by omega) (by omega) (by omega) (by omega) (by omega) (by omega) (by omega) (by omega)).mono ?_; rintro e w4 ⟨rfl, hb4⟩)
  go_ret2
  exact ⟨ret2_int (by simp only [beVal, List.foldl]; omega), hb3.trans (hb4.mono hb3.size)⟩

set_option maxHeartbeats 800000 in
set_option maxRecDepth 20000 in
theorem get_4 (s : ByteArray) (k : Nat) (y0 y1 y2 y3 : UInt8) (w : World) (hk : k + 4 ≤ s.size) (hs : s.size ≤ maxLen) (hy : (s.extract k (k + 4)).data.toList = [y0, y1, y2, y3]) :
    Calls Tryd.prog 92 #[.string s, .int .i64 k, .int .i64 4] w fun e w' => e = .returned (.tuple #[.int .i64 (beVal [y0, y1, y2, y3]), .int .i64 0]) ∧ Below w.heap.size w w' := by
  unfold maxLen at hs
  have t1 : decide ((k : Int) < 0) = false := by simp
  have t2 : decide ((s.size : Int) - 4 < k) = false := by simp; omega
  have r1 : IntKind.i64.wrap 0 = 0 := by decide
  have r2 : IntKind.i64.wrap ((k : Int) + 4) = (k : Int) + 4 := IntWalk.i64_in _ (by omega)
  have r3 : ((k : Int) + 4).toNat = k + 4 := by omega
  have r4 : 0 ≤ (k : Int) + 4 := by omega
  have hsl : ∀ wx, (Instr.slice 9 (.string s) (some (.int .i64 (k : Int))) (some (.int .i64 ((k : Int) + 4))) none).run Tryd.prog wx = .ok (.string (s.extract k (k + 4))) wx := fun wx => by
    have := run_slice_string (P := Tryd.prog) wx 9 s .i64 .i64 (k : Int) ((k : Int) + 4) Tryd.underlying9 (by omega) (by omega) (by omega)
    rwa [Int.toNat_natCast, r3] at this
  have Hy := Lib.hid hy
  clear hy
  go_enter Tryd.func92, Tryd.ntmps92
  go_wp2_with (go_at_call 98; refine (validWidth_yes _ _ (by omega) (by omega)).mono ?_; rintro e w' ⟨rfl, rfl⟩)
  go_still_tail 9, (by kernel_rfl)
  change wpList _ _ _ _ _ (World.drew _)
  have hb2 : Below w.heap.size w (w.alloc (.cells #[.int .u8 0, .int .u8 0, .int .u8 0, .int .u8 0] 165)).drew := ((Below.refl _ w).alloc (Nat.le_refl _) _).drew
  have hg2 : (w.alloc (.cells #[.int .u8 0, .int .u8 0, .int .u8 0, .int .u8 0] 165)).drew.heap[w.heap.size]? = some (.cells #[.int .u8 0, .int .u8 0, .int .u8 0, .int .u8 0] 165 (0, 0)) := heap_alloc_new w _
  generalize World.drew _ = w2 at hb2 hg2 ⊢
  obtain ⟨w3, hcp, hg3, hb3⟩ := copy_string_own (P := Tryd.prog) 47 9 3 5 w.heap.size 0 4 4 (s.extract k (k + 4)) _ Hy.out _ 165 Tryd.underlying47 (by kernel_rfl) hg2 (by simp) (by simp) hb2 (Nat.le_refl _)
  have c0 : w3.cell? ⟨w.heap.size, 0, none⟩ = some (.int .u8 (y0.toNat : Int)) := by rw [cell_of_row _ _ _ _ _ _ hg3]; rfl
  have c1 : w3.cell? ⟨w.heap.size, 1, none⟩ = some (.int .u8 (y1.toNat : Int)) := by rw [cell_of_row _ _ _ _ _ _ hg3]; rfl
  have c2 : w3.cell? ⟨w.heap.size, 2, none⟩ = some (.int .u8 (y2.toNat : Int)) := by rw [cell_of_row _ _ _ _ _ _ hg3]; rfl
  have c3 : w3.cell? ⟨w.heap.size, 3, none⟩ = some (.int .u8 (y3.toNat : Int)) := by rw [cell_of_row _ _ _ _ _ _ hg3]; rfl
  have hy0 := y0.toNat_lt
  have hy1 := y1.toNat_lt
  have hy2 := y2.toNat_lt
  have hy3 := y3.toNat_lt
  clear hg2 hg3 hb2
  go_wp2_with (go_at_call 103; refine (join_any _ _ _ _ _ (by omega) (by omega) (by omega) (by omega) (by omega) (by omega) (by omega) (by omega)).mono ?_; rintro e w4 ⟨rfl, hb4⟩)
  go_ret2
  exact ⟨ret2_int (by simp only [beVal, List.foldl]; omega), hb3.trans (hb4.mono hb3.size)⟩

/-- what Get gives where the bytes lie within the string -/
theorem get_nat (s : ByteArray) (k : Nat) (b : Int) (w : World) (hb1 : 1 ≤ b) (hb2 : b ≤ 4) (hk : k + b.toNat ≤ s.size) (hs : s.size ≤ maxLen) :
    Calls Tryd.prog 92 #[.string s, .int .i64 k, .int .i64 b] w fun e w' => e = .returned (.tuple #[.int .i64 (beVal ((s.data.toList.drop k).take b.toNat)), .int .i64 0]) ∧ Below w.heap.size w w' := by
  have hl : (s.extract k (k + b.toNat)).data.toList = (s.data.toList.drop k).take b.toNat := by
    rw [ByteArray.data_extract, Array.toList_extract, List.extract_eq_take_drop]
    congr 1; omega
  rw [← hl]
  have hz : (s.extract k (k + b.toNat)).data.toList.length = b.toNat := by
    rw [← size_of_list' rfl, ByteArray.size_extract]; omega
  have hb : b = 1 ∨ b = 2 ∨ b = 3 ∨ b = 4 := by omega
  rcases hb with rfl | rfl | rfl | rfl
  · obtain ⟨y0, h⟩ := List.length_eq_one_iff.1 hz
    have := get_1 s k y0 w hk hs h
    rwa [← h] at this
  · obtain ⟨y0, y1, h⟩ : ∃ a b, (s.extract k (k + (2 : Int).toNat)).data.toList = [a, b] := by
      match (s.extract k (k + (2 : Int).toNat)).data.toList, hz with
      | [a, b], _ => exact ⟨a, b, rfl⟩
    have := get_2 s k y0 y1 w hk hs h
    rwa [← h] at this
  · obtain ⟨y0, y1, y2, h⟩ : ∃ a b c, (s.extract k (k + (3 : Int).toNat)).data.toList = [a, b, c] := by
      match (s.extract k (k + (3 : Int).toNat)).data.toList, hz with
      | [a, b, c], _ => exact ⟨a, b, c, rfl⟩
    have := get_3 s k y0 y1 y2 w hk hs h
    rwa [← h] at this
  · obtain ⟨y0, y1, y2, y3, h⟩ : ∃ a b c d, (s.extract k (k + (4 : Int).toNat)).data.toList = [a, b, c, d] := by
      match (s.extract k (k + (4 : Int).toNat)).data.toList, hz with
      | [a, b, c, d], _ => exact ⟨a, b, c, d, rfl⟩
    have := get_4 s k y0 y1 y2 y3 w hk hs h
    rwa [← h] at this

theorem get_any (s : ByteArray) (k b : Int) (w : World) (hb1 : 1 ≤ b) (hb2 : b ≤ 4) (hk0 : 0 ≤ k) (hk : k + b ≤ s.size) (hs : s.size ≤ maxLen) :
    Calls Tryd.prog 92 #[.string s, .int .i64 k, .int .i64 b] w fun e w' => e = .returned (.tuple #[.int .i64 (beVal ((s.data.toList.drop k.toNat).take b.toNat)), .int .i64 0]) ∧ Below w.heap.size w w' := by
  obtain ⟨n, rfl⟩ := Int.eq_ofNat_of_zero_le hk0
  exact get_nat s n b w hb1 hb2 (by omega) hs

theorem get_width (s : ByteArray) (k b : Int) (w : World) (h : b < 1 ∨ 4 < b) :
    Calls Tryd.prog 92 #[.string s, .int .i64 k, .int .i64 b] w fun e w' => e = .returned (.tuple #[.int .i64 0, .int .i64 10]) ∧ w = w' := by
  go_enter Tryd.func92, Tryd.ntmps92
  go_wp2_with (go_at_call 98; refine (validWidth_no _ _ h).mono ?_; rintro e w' ⟨rfl, rfl⟩)
  go_ret2
  exact ⟨rfl, rfl⟩
theorem get_neg (s : ByteArray) (k b : Int) (w : World) (hb1 : 1 ≤ b) (hb2 : b ≤ 4) (h : k < 0) :
    Calls Tryd.prog 92 #[.string s, .int .i64 k, .int .i64 b] w fun e w' => e = .returned (.tuple #[.int .i64 0, .int .i64 10]) ∧ w = w' := by
  have t1 : decide (k < 0) = true := by simpa using h
  go_enter Tryd.func92, Tryd.ntmps92
  go_wp2_with (go_at_call 98; refine (validWidth_yes _ _ hb1 hb2).mono ?_; rintro e w' ⟨rfl, rfl⟩)
  go_ret2
  exact ⟨rfl, rfl⟩
theorem get_past (s : ByteArray) (k b : Int) (w : World) (hb1 : 1 ≤ b) (hb2 : b ≤ 4) (h0 : 0 ≤ k) (h : (s.size : Int) < k + b) (hs : s.size ≤ maxLen) :
    Calls Tryd.prog 92 #[.string s, .int .i64 k, .int .i64 b] w fun e w' => e = .returned (.tuple #[.int .i64 0, .int .i64 10]) ∧ w = w' := by
  unfold maxLen at hs
  have t1 : decide (k < 0) = false := by simpa using h0
  have t2 : decide ((s.size : Int) - b < k) = true := by simp; omega
  go_enter Tryd.func92, Tryd.ntmps92
  go_wp2_with (go_at_call 98; refine (validWidth_yes _ _ hb1 hb2).mono ?_; rintro e w' ⟨rfl, rfl⟩)
  go_ret2
  exact ⟨rfl, rfl⟩
/-- Get refuses all else -/
theorem get_no (s : ByteArray) (k b : Int) (w : World) (hs : s.size ≤ maxLen) (h : ¬ (1 ≤ b ∧ b ≤ 4 ∧ 0 ≤ k ∧ k + b ≤ s.size)) :
    Calls Tryd.prog 92 #[.string s, .int .i64 k, .int .i64 b] w fun e w' => e = .returned (.tuple #[.int .i64 0, .int .i64 10]) ∧ w = w' := by
  by_cases hw : b < 1 ∨ 4 < b
  · exact get_width s k b w hw
  by_cases hn : k < 0
  · exact get_neg s k b w (by omega) (by omega) hn
  · exact get_past s k b w (by omega) (by omega) (by omega) (by omega) hs
end Go.Proofs.YtidjbpglpobigaaDoor

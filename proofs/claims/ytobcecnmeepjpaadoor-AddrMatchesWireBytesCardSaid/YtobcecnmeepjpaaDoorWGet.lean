/- Contracts of wire.Get. -/
import Derived.Test.YtobcecnmeepjpaaDoorWPut
import Derived.StillTailTactics
import Derived.Lib.BufferWrite
namespace Go.Proofs.YtobcecnmeepjpaaDoor.wr
open Go.RowKit

/-- the number that bytes encode, the greatest first -/
def beVal (l : List UInt8) : Int := l.foldl (fun a y => a * 256 + (y.toNat : Int)) 0
theorem ret2_int {a b : Int} {v : Value} (h : a = b) : Ending.returned (.tuple #[.int .i64 a, v]) = .returned (.tuple #[.int .i64 b, v]) := by rw [h]
theorem size_of_list' {s : ByteArray} {l : List UInt8} (h : s.data.toList = l) : s.size = l.length := by rw [← h]; rfl

/-- copy of a whole string into a row of the call's own -/
theorem copy_string_own {P : Program} {w0 w : World} (dT sT ty elem : TypeId) (g o dLen dCap : Nat) (s : ByteArray) (l : List UInt8) (hl : s.data.toList = l) (cur : Array Value) (t : TypeId)
    (hu : P.underlying dT = some (.slice elem)) (hs : (P.info? elem).map (·.size) = some 1) (hg : w.heap[g]? = some (.cells cur t (0, 0))) (hle : l.length ≤ dLen) (hfit : o + l.length ≤ cur.size)
    (hb : Below w0.heap.size w0 w) (hBg : w0.heap.size ≤ g) :
    ∃ w', (Builtin.copy_ #[dT, sT] ty #[.slice (some ⟨g, o, none⟩) dLen dCap, .string s]).run P w = .ok (goInt l.length) w' ∧
      w'.heap[g]? = some (.cells (cur.toList.take o ++ l.map (fun b : UInt8 => Value.int .u8 (b.toNat : Int)) ++ cur.toList.drop (o + l.length)).toArray t (0, 0)) ∧ Below w0.heap.size w0 w' := by
  have hz := size_of_list' hl
  have := Lib.run_copy_row_string (P := P) w dT sT ty elem g o dLen dCap s cur t hu hs hg (by omega) (by omega)
  rw [hz, hl] at this
  exact ⟨_, this, setRow_heap w g cur _ t (0, 0) hg, below_setRow hb hBg _⟩


set_option maxRecDepth 20000 in
set_option maxHeartbeats 800000 in
theorem get_1 (s : ByteArray) (k : Nat) (y0 : UInt8) (w : World) (hk : k + 1 ≤ s.size) (hs : s.size ≤ maxLen) (hy : (s.extract k (k + 1)).data.toList = [y0]) :
    Calls Tryd.prog 26 #[.string s, .int .i64 k, .int .i64 1] w fun e w' => e = .returned (.tuple #[.int .i64 (beVal [y0]), .int .i64 0]) ∧ Below w.heap.size w w' := by
  unfold maxLen at hs
  have t1 : decide ((k : Int) < 0) = false := by simp
  have t2 : decide ((s.size : Int) - 1 < k) = false := by simp; omega
  have r1 : IntKind.i64.wrap 3 = 3 := by decide
  have r2 : IntKind.i64.wrap ((k : Int) + 1) = (k : Int) + 1 := IntWalk.i64_in _ (by omega)
  have r3 : ((k : Int) + 1).toNat = k + 1 := by omega
  have r4 : 0 ≤ (k : Int) + 1 := by omega
  have hsl : ∀ wx, (Instr.slice 9 (.string s) (some (.int .i64 (k : Int))) (some (.int .i64 ((k : Int) + 1))) none).run Tryd.prog wx = .ok (.string (s.extract k (k + 1))) wx := fun wx => by
    have := run_slice_string (P := Tryd.prog) wx 9 s .i64 .i64 (k : Int) ((k : Int) + 1) Tryd.underlying9 (by omega) (by omega) (by omega)
    rwa [Int.toNat_natCast, r3] at this
  have Hy := Lib.hid hy
  clear hy
  go_enter Tryd.func26, Tryd.ntmps26
  go_wp2_with (go_at_call 41; refine (validWidth_yes _ _ (by omega) (by omega)).mono ?_; rintro e w' ⟨rfl, rfl⟩)
  go_still_tail 9, (by kernel_rfl)
  change wpList _ _ _ _ _ (World.drew _)
  have hb2 : Below w.heap.size w (w.alloc (.cells #[.int .u8 0, .int .u8 0, .int .u8 0, .int .u8 0] 59)).drew := ((Below.refl _ w).alloc (Nat.le_refl _) _).drew
  have hg2 : (w.alloc (.cells #[.int .u8 0, .int .u8 0, .int .u8 0, .int .u8 0] 59)).drew.heap[w.heap.size]? = some (.cells #[.int .u8 0, .int .u8 0, .int .u8 0, .int .u8 0] 59 (0, 0)) := heap_alloc_new w _
  generalize World.drew _ = w2 at hb2 hg2 ⊢
  obtain ⟨w3, hcp, hg3, hb3⟩ := copy_string_own (P := Tryd.prog) 32 9 3 5 w.heap.size 3 1 1 (s.extract k (k + 1)) _ Hy.out _ 59 Tryd.underlying32 (by kernel_rfl) hg2 (by simp) (by simp) hb2 (Nat.le_refl _)
  have c0 : w3.cell? ⟨w.heap.size, 0, none⟩ = some (.int .u8 0) := by rw [cell_of_row _ _ _ _ _ _ hg3]; rfl
  have c1 : w3.cell? ⟨w.heap.size, 1, none⟩ = some (.int .u8 0) := by rw [cell_of_row _ _ _ _ _ _ hg3]; rfl
  have c2 : w3.cell? ⟨w.heap.size, 2, none⟩ = some (.int .u8 0) := by rw [cell_of_row _ _ _ _ _ _ hg3]; rfl
  have c3 : w3.cell? ⟨w.heap.size, 3, none⟩ = some (.int .u8 (y0.toNat : Int)) := by rw [cell_of_row _ _ _ _ _ _ hg3]; rfl
  have hy0 := y0.toNat_lt
  clear hg2 hg3 hb2
  go_wp2_with (go_at_call 43; refine (join_any _ _ _ _ _ (by omega) (by omega) (by omega) (by omega) (by omega) (by omega) (by omega) (by omega)).mono ?_; rintro e w4 ⟨rfl, hb4⟩)
  go_ret2
  exact ⟨ret2_int (by simp only [beVal, List.foldl]; omega), hb3.trans (hb4.mono hb3.size)⟩

end Go.Proofs.YtobcecnmeepjpaaDoor.wr

/- Contract of link.write: the numbers' encodings one after the other. -/
import Derived.Test.YtgfldbllokbnaaaDoorLkV
import Derived.Test.YtgfldbllokbnaaaDoorPut
namespace Go.Proofs.YtgfldbllokbnaaaDoor
open Go.RowKit
attribute [local go_sem] Oper.semAt_some

/-- the first m encodings, joined -/
def catN (nf bf : Nat → Int) : Nat → ByteArray
  | 0 => ByteArray.empty
  | k + 1 => catN nf bf k ++ beS (bf k) (nf k)
theorem catN_size (nf bf : Nat → Int) : ∀ m, (∀ j, j < m → 1 ≤ bf j ∧ bf j ≤ 4) → (catN nf bf m).size ≤ 4 * m
  | 0, _ => by simp [catN]
  | k + 1, h => by
    have h1 := catN_size nf bf k (fun j hj => h j (by omega))
    have h2 := h k (by omega)
    rw [catN, ByteArray.size_append, beS_size _ _ h2.1 h2.2]
    omega

set_option maxRecDepth 20000 in
set_option maxHeartbeats 1600000 in
theorem write_any (nf bf : Nat → Int) (g m cap : Nat) (hm : m ≤ 4) (w : World) (hg : g < w.heap.size)
    (hc : ∀ j, j < m → w.cell? ⟨g, j * 2, none⟩ = some (.int .i64 (nf j)) ∧ w.cell? ⟨g, j * 2 + 1, none⟩ = some (.int .i64 (bf j)))
    (hb : ∀ j, j < m → 1 ≤ bf j ∧ bf j ≤ 4 ∧ 0 ≤ nf j ∧ nf j < 256 ^ (bf j).toNat) :
    Calls Tryd.prog 24 #[.slice (some ⟨g, 0, none⟩) m cap] w fun e w' => e = .returned (.string (catN nf bf m)) ∧ Below w.heap.size w w' := by
  go_enter Tryd.func24, Tryd.ntmps24
  go_wp2
  go_loopw [3, 10] (fun o i wr => ∃ k : Nat, k ≤ m ∧ o = .string (catN nf bf k) ∧ i = .int .i64 k ∧ Below w.heap.size w wr) (fun _ i _ => m - (intOf i).toNat)
  case atStart => exact ⟨0, by omega, rfl, rfl, Below.refl _ _⟩
  case round =>
    obtain ⟨k, hk, rfl, rfl, hB⟩ := hrel
    by_cases h : k < m
    · obtain ⟨c1, c2⟩ := hc k h
      obtain ⟨b1, b2, b3, b4⟩ := hb k h
      have hsz := catN_size nf bf k (fun j hj => ⟨(hb j (by omega)).1, (hb j (by omega)).2.1⟩)
      have hbs := beS_size (bf k) (nf k) b1 b2
      have d1 := (hB.cell (p := ⟨g, k * 2, none⟩) hg).trans c1
      have d2 := (hB.cell (p := ⟨g, k * 2 + 1, none⟩) hg).trans c2
      generalize hN : nf k = N at *
      generalize hS : bf k = S at *
      go_wp2_with fail
      refine (put_any N S _ b1 b2 b3 b4).mono ?_
      rintro e w2 ⟨rfl, hb2⟩
      have hB2 : Below w.heap.size w w2 := hB.trans ((((Below.refl _ wr).alloc (Nat.le_refl _) _).trans (hb2.mono (by simp))).mono hB.size)
      go_wp2
      go_roundw
      case rel => exact ⟨k + 1, by omega, by rw [catN, hN, hS], by go_num, hB2⟩
      case measure => simp [intOf]; omega
    · obtain rfl : k = m := by omega
      go_wp2
      go_ret
      exact ⟨rfl, hB⟩
end Go.Proofs.YtgfldbllokbnaaaDoor

/- Facts for the statement WireChecksumOrder: two words exchanged, noughts behind. -/
import Derived.Test.YtolohjinjpegmaaCrcWalk
import Derived.Lib.ConvBytes
import Derived.Deep.OwnRows
namespace Go.Proofs.Ytolohjinjpegmaa
open Go.RowKit

def wt (i : Nat) : Nat := if i % 2 = 0 then 256 else 1
/-- one byte turned: what becomes of the sum -/
theorem SW_set : ∀ (l : List UInt8) (i : Nat) (x : UInt8) (h : i < l.length), SW (l.set i x) + wt i * l[i].toNat = SW l + wt i * x.toNat
  | [y], 0, x, _ => by simp only [List.set, SW_one, wt, List.getElem_cons_zero]; rw [if_pos (by decide)]; omega
  | [y], i + 1, x, h => by simp at h
  | y :: z :: l, 0, x, _ => by
    simp only [List.set, SW_two, wt, List.getElem_cons_zero]; rw [if_pos (by decide)]; omega
  | y :: z :: l, 1, x, _ => by
    simp only [List.set, SW_two, wt, List.getElem_cons_succ, List.getElem_cons_zero]; rw [if_neg (by decide)]; omega
  | y :: z :: l, i + 2, x, h => by
    have ih := SW_set l i x (by simp only [List.length_cons] at h; omega)
    simp only [List.set, SW_two, List.getElem_cons_succ]
    have hw : wt (i + 2) = wt i := by unfold wt; rw [show (i + 2) % 2 = i % 2 by omega]
    rw [hw]
    omega
/-- two bytes exchanged -/
def swap (l : List UInt8) (i k : Nat) (hi : i < l.length) (hk : k < l.length) : List UInt8 := (l.set i l[k]).set k l[i]
theorem swap_length (l : List UInt8) (i k : Nat) (hi : i < l.length) (hk : k < l.length) : (swap l i k hi hk).length = l.length := by simp [swap]
theorem SW_swap (l : List UInt8) (i k : Nat) (hi : i < l.length) (hk : k < l.length) (hw : wt i = wt k) : SW (swap l i k hi hk) = SW l := by
  have h1 := SW_set l i l[k] hi
  have h2 := SW_set (l.set i l[k]) k l[i] (by simpa using hk)
  have e : (l.set i l[k])[k]'(by simpa using hk) = l[k] := by
    rw [List.getElem_set]; split <;> rfl
  rw [e] at h2
  unfold swap
  rw [hw] at h1
  omega

/-- block g holds the bytes l from its head on; they may be written -/
def BytesAt (w : World) (g : Nat) (l : List UInt8) : Prop := ∀ j (h : j < l.length), w.cell? ⟨g, j, none⟩ = some (.int .u8 (l[j].toNat : Int)) ∧ w.frozen? ⟨g, j, none⟩ = false
theorem BytesAt.keep {w w' : World} {g : Nat} {l : List UInt8} (h : BytesAt w g l) (hg : g < w.heap.size) (hb : Below w.heap.size w w') : BytesAt w' g l := fun j hj => by
  obtain ⟨h1, h2⟩ := h j hj
  exact ⟨by rw [hb.cell (p := ⟨g, j, none⟩) hg]; exact h1, by rw [hb.frozen (p := ⟨g, j, none⟩) hg]; exact h2⟩
theorem BytesAt.set {w : World} {g : Nat} {l : List UInt8} (h : BytesAt w g l) (i : Nat) (_hi : i < l.length) (x : UInt8) : BytesAt (w.setCell ⟨g, i, none⟩ (.int .u8 (x.toNat : Int))) g (l.set i x) := fun j hj => by
  have hj' : j < l.length := by simpa using hj
  obtain ⟨h1, h2⟩ := h j hj'
  refine ⟨?_, by rw [World.frozen?_setCell]; exact h2⟩
  by_cases e : i = j
  · subst e
    rw [World.cell?_setCell_same' _ _ _ (by rw [h1]; rfl)]; simp
  · rw [World.cell?_setCell_other w _ _ _ (fun e' => e (by injection e')), h1, List.getElem_set_ne e]
theorem BytesAt.drew {w : World} {g : Nat} {l : List UInt8} (h : BytesAt w g l) : BytesAt w.drew g l := h

/-- []byte(s) -/
theorem to_bytes (w : World) (s : ByteArray) :
    ∃ cap w', (convert 9 34 (.string s)).run Try.prog w = .ok (.slice (some ⟨w.heap.size, 0, none⟩) s.size cap) w' ∧ BytesAt w' w.heap.size s.data.toList ∧ Below w.heap.size w w' ∧ w'.heap.size = w.heap.size + 1 := by
  refine ⟨_, _, run_bytes_of_string w 9 34 5 s Try.underlying9 Try.underlying34 Try.underlying5, ?_, ?_, ?_⟩
  · intro j hj
    have hj' : j < s.data.size := by simpa using hj
    have hz : ∀ c, s.data.size ≤ (bytesRow s c).size := fun c => by simp [bytesRow]
    have hz' := hz (grownCap w s.size 0 5)
    refine ⟨?_, ?_⟩
    · have := World.cell?_alloc_mark w.drew (bytesRow s (grownCap w s.size 0 5)) 5 ((bytesRow s (grownCap w s.size 0 5)).size, (bytesRow s (grownCap w s.size 0 5)).size + 1) j
      rw [bytesRow_at s _ j hj'] at this
      exact this
    · have := World.frozen?_alloc_mark w.drew (bytesRow s (grownCap w s.size 0 5)) 5 (bytesRow s (grownCap w s.size 0 5)).size ((bytesRow s (grownCap w s.size 0 5)).size + 1) j
      rw [decide_eq_false (by omega)] at this
      exact this
  · exact (Below.refl w.heap.size w).drew.alloc (Nat.le_refl _) _
  · rw [World.size_alloc]; rfl

/-- string(b) of such bytes -/
theorem from_bytes {w : World} {g cap : Nat} {l : List UInt8} (h : BytesAt w g l) (n : Nat) (hn : n = l.length) :
    (convert 34 9 (.slice (some ⟨g, 0, none⟩) n cap)).run Try.prog w = .ok (.string ⟨l.toArray⟩) w := by
  have := run_convert_bytes_arg (P := Try.prog) w 34 5 Try.underlying34 Try.underlying5 g 0 n cap (l.map fun x => (x.toNat : Int)) (by rw [List.length_map, hn]) (fun i hi => by
    rw [Nat.zero_add, (h i (by omega)).1]
    rw [List.getD_eq_getElem?_getD, List.getElem?_map, List.getElem?_eq_getElem (by omega)]; rfl) 9 Try.underlying9
  rw [strOfNums_bytes] at this
  exact this

/-- noughts -/
def noughts (n : Nat) : ByteArray := ⟨(List.replicate n (0 : UInt8)).toArray⟩
theorem SW_noughts : ∀ n, SW (List.replicate n (0 : UInt8)) = 0
  | 0 => SW_nil
  | 1 => by rw [show List.replicate 1 (0 : UInt8) = [0] from rfl, SW_one]; rfl
  | n + 2 => by
    rw [List.replicate_succ, List.replicate_succ, SW_two, SW_noughts n]; rfl
theorem made_bytes (w : World) (n : Nat) : BytesAt (w.alloc (.cells (madeCells #[.int .u8 0] n) 5)) w.heap.size (List.replicate n (0 : UInt8)) := fun j hj => by
  have hj' : j < n := by simpa using hj
  refine ⟨?_, World.frozen?_alloc_new _ _ _ _⟩
  rw [World.cell?_alloc_new, List.getElem_replicate]
  simp [madeCells, hj', Nat.mod_one]

theorem swap_world {w : World} {g : Nat} {l : List UInt8} (h : BytesAt w g l) (i k : Nat) (hi : i < l.length) (hk : k < l.length) :
    BytesAt ((w.setCell ⟨g, i, none⟩ (.int .u8 (l[k].toNat : Int))).setCell ⟨g, k, none⟩ (.int .u8 (l[i].toNat : Int))) g (swap l i k hi hk) :=
  (h.set i hi l[k]).set k (by simpa using hk) l[i]
theorem swap_below {B : Nat} {w0 w : World} (h : Below B w0 w) {g : Nat} (hg : B ≤ g) (i k : Nat) (x y : Value) : Below B w0 ((w.setCell ⟨g, i, none⟩ x).setCell ⟨g, k, none⟩ y) :=
  (h.setCell (p := ⟨g, i, none⟩) hg x).setCell (p := ⟨g, k, none⟩) hg y

/-- the checksum of the two parts' sums -/
theorem sum_parts (L : List UInt8) (i0 : Nat) (hi : 2 * i0 ≤ L.length) (c1 c2 : Nat) (h1 : sumN (L.take (2 * i0)) = c1) (h2 : sumN (L.drop (2 * i0)) = c2) :
    sumN (beS 2 (65535 - (c1 : Int)) ++ beS 2 (65535 - (c2 : Int))).data.toList = sumN L := by
  have b1 := sumN_le (L.take (2 * i0))
  have b2 := sumN_le (L.drop (2 * i0))
  have hl : (beS 2 (65535 - (c1 : Int))).data.toList.length = 2 * 1 := by rw [size_toList, beS_size _ _ (by decide) (by decide)]; rfl
  rw [toList_append, sumN_eq, sumN_eq L, SW_append 1 _ _ hl, SW_be2 _ (by omega) (by omega), SW_be2 _ (by omega) (by omega)]
  have hs : SW L = SW (L.take (2 * i0)) + SW (L.drop (2 * i0)) := by
    rw [← SW_append i0 _ _ (by rw [List.length_take]; omega), List.take_append_drop]
  rw [hs, ← foldC_add (SW (L.take (2 * i0))) (SW (L.drop (2 * i0)))]
  have f1 := foldC_le (SW (L.take (2 * i0)))
  have f2 := foldC_le (SW (L.drop (2 * i0)))
  rw [sumN_eq] at h1 h2
  have e : (65535 - (c1 : Int)).toNat + (65535 - (c2 : Int)).toNat = foldC (SW (L.take (2 * i0))) + foldC (SW (L.drop (2 * i0))) := by omega
  rw [e]
end Go.Proofs.Ytolohjinjpegmaa

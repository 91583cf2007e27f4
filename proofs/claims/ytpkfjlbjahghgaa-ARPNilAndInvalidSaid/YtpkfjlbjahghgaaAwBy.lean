/- Bytes and strings: []byte made, turned into a string; a string cut. -/
import Derived.Test.YtpkfjlbjahghgaaRef
import Derived.Lib.ConvBytes
import Derived.Deep.OwnRows
import Derived.Below
namespace Go.Proofs.Ytpkfjlbjahghgaa
open Go.RowKit
set_option linter.unusedVariables false
theorem infoU8 : (Try.prog.info? 5).map (fun i => (i.zero, i.size, i.bytes)) = some (some (.int .u8 0), 1, 1) := by kernel_rfl
theorem strOfNums_bytes (l : List UInt8) : strOfNums (l.map fun x => (x.toNat : Int)) = ⟨l.toArray⟩ := by
  apply ba_ext
  rw [strOfNums_data, List.map_map]
  exact (List.map_congr_left (g := id) fun x _ => by simp).trans (List.map_id l)
theorem cut_to (s : ByteArray) (k : Nat) (hk : k ≤ s.size) :
    ∃ t : ByteArray, (∀ wx, (Instr.slice 9 (.string s) none (some (.int .i64 (k : Int))) none).run Try.prog wx = .ok (.string t) wx) ∧ t.data.toList = s.data.toList.take k ∧ t.size ≤ k := by
  refine ⟨s.extract 0 k, fun wx => ?_, ?_, ?_⟩
  · have := run_slice_string_h (P := Try.prog) wx 9 s Try.underlying9 .i64 (k : Int) (by omega) (by omega)
    rwa [Int.toNat_natCast] at this
  · rw [ByteArray.data_extract, Array.toList_extract, List.extract_eq_take_drop]; simp
  · simp only [ByteArray.size_extract]; omega
theorem cut_from (s : ByteArray) (k : Nat) (hk : k ≤ s.size) :
    ∃ t : ByteArray, (∀ wx, (Instr.slice 9 (.string s) (some (.int .i64 (k : Int))) none none).run Try.prog wx = .ok (.string t) wx) ∧ t.data.toList = s.data.toList.drop k ∧ t.size ≤ s.size := by
  refine ⟨s.extract k s.size, fun wx => ?_, ?_, ?_⟩
  · have := run_slice_string_l (P := Try.prog) wx 9 s Try.underlying9 .i64 (k : Int) (by omega) (by omega)
    rwa [Int.toNat_natCast] at this
  · rw [ByteArray.data_extract, Array.toList_extract, List.extract_eq_take_drop]
    exact List.take_of_length_le (by rw [List.length_drop, size_toList]; omega)
  · simp only [ByteArray.size_extract]; omega
theorem conv_one (w' : World) (n : Nat) (x : Int) (bs : ByteArray) (hbs : strOfNums [x] = bs) (h : w'.cell? ⟨n, 0, none⟩ = some (.int .u8 x)) :
    (convert 34 9 (.slice (some ⟨n, 0, none⟩) 1 1)).run Try.prog w' = .ok (.string bs) w' := by
  rw [← hbs]
  exact run_convert_bytes_arg (P := Try.prog) _ 34 5 Try.underlying34 Try.underlying5 n 0 1 1 [x] rfl (fun i hi => by
    obtain rfl : i = 0 := by omega
    rw [h]; rfl) 9 Try.underlying9
/-- block g holds the bytes l from its head on; they may be written -/
def BytesAt (w : World) (g : Nat) (l : List UInt8) : Prop := ∀ j (h : j < l.length), w.cell? ⟨g, j, none⟩ = some (.int .u8 (l[j].toNat : Int)) ∧ w.frozen? ⟨g, j, none⟩ = false
theorem BytesAt.keep {w w' : World} {g : Nat} {l : List UInt8} (h : BytesAt w g l) (hg : g < w.heap.size) (hb : Below w.heap.size w w') : BytesAt w' g l := fun j hj => by
  obtain ⟨h1, h2⟩ := h j hj
  exact ⟨by rw [hb.cell (p := ⟨g, j, none⟩) hg]; exact h1, by rw [hb.frozen (p := ⟨g, j, none⟩) hg]; exact h2⟩
/-- string(b) of such bytes -/
theorem from_bytes {w : World} {g cap : Nat} {l : List UInt8} (h : BytesAt w g l) (n : Nat) (hn : n = l.length) :
    (convert 34 9 (.slice (some ⟨g, 0, none⟩) n cap)).run Try.prog w = .ok (.string ⟨l.toArray⟩) w := by
  have := run_convert_bytes_arg (P := Try.prog) w 34 5 Try.underlying34 Try.underlying5 g 0 n cap (l.map fun x => (x.toNat : Int)) (by rw [List.length_map, hn]) (fun i hi => by
    rw [Nat.zero_add, (h i (by omega)).1]
    rw [List.getD_eq_getElem?_getD, List.getElem?_map, List.getElem?_eq_getElem (by omega)]; rfl) 9 Try.underlying9
  rw [strOfNums_bytes] at this
  exact this

theorem made_bytes (w : World) (n : Nat) : BytesAt (w.alloc (.cells (madeCells #[.int .u8 0] n) 5)) w.heap.size (List.replicate n (0 : UInt8)) := fun j hj => by
  have hj' : j < n := by simpa using hj
  refine ⟨?_, World.frozen?_alloc_new _ _ _ _⟩
  rw [World.cell?_alloc_new, List.getElem_replicate]
  simp [madeCells, hj', Nat.mod_one]

end Go.Proofs.Ytpkfjlbjahghgaa

/- A slice of strings handed in. -/
import Derived.Test.YtpkfjlbjahghgaaAlaid
import Derived.SliceStrings
namespace Go.Proofs.Ytpkfjlbjahghgaa
open Go.ChangeShapes Go.WideShapes Go.ChangeAt Go.RowKit
set_option linter.unusedVariables false

/-- a slice of strings, as the walk reads it -/
def StrsIn (W : World) (lv : Value) (zs : List ByteArray) : Prop := (lv = .slice none 0 0 ∧ zs = []) ∨ ∃ (a : Addr) (cap : Nat), lv = .slice (some a) zs.length cap ∧ ∀ (i : Nat) (h : i < zs.length), W.cell? (a.add i) = some (.string zs[i])
section
variable {H : Type} {enc : TypeId × Value → H}
set_option maxRecDepth 100000 in
theorem opn_strs {W : World} {b0 : Nat} {v : Value} {d : DataW H} {p : List MemPlace} (hv : Value.okWide Try.prog W .any b0 35 v) (h : DataW.Trod enc Try.prog W 0 (fun _ => true) true 35 v d p) :
    ∃ zs : List ByteArray, StrsIn W v zs ∧ (∀ z ∈ zs, z.size ≤ maxLen) ∧ zs.length ≤ maxLen := by
  obtain ⟨q, n, c, rfl⟩ := okWide_slice Try.underlying35 hv
  obtain ⟨fuel, hf⟩ := h
  rcases open_strings Try.underlying35 Try.underlying9 (by kernel_rfl) hf with ⟨hcs, hx⟩ | ⟨a, len, cap, zs, hcs, _, hl, hm, hz, hx, hcell, hwz⟩
  · simp [Value.cells] at hcs
    obtain ⟨rfl, rfl, rfl⟩ := hcs
    exact ⟨[], .inl ⟨rfl, rfl⟩, by simp, Nat.zero_le _⟩
  · simp [Value.cells] at hcs
    obtain ⟨rfl, rfl, rfl⟩ := hcs
    simp only [if_true] at hz
    have hlen : (zs.take n).length = n := by rw [List.length_take]; omega
    refine ⟨zs.take n, .inr ⟨a, c, by rw [hlen], fun i hi => ?_⟩, fun z hz2 => hwz z (List.mem_of_mem_take hz2), by rw [hlen]; omega⟩
    rw [hlen] at hi
    rw [hcell i (by omega), List.getElem_take, List.getD_eq_getElem?_getD, List.getElem?_eq_getElem (by omega)]
    rfl
end
end Go.Proofs.Ytpkfjlbjahghgaa

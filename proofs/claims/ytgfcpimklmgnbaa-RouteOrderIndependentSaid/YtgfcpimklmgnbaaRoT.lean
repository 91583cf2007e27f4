/- Rows put together: the empty literal, a row appended to it, one more. -/
import Derived.Test.YtgfcpimklmgnbaaRoL
import Derived.Laws.AppendOwnNone
namespace Go.Proofs.Ytgfcpimklmgnbaa
open Go.RowKit Go.Shelf
set_option linter.unusedVariables false
attribute [local go_sem] Oper.semAt_some

theorem add0 (g j : Nat) : (⟨g, 0, none⟩ : Addr).add j = ⟨g, j, none⟩ := by unfold Addr.add; split <;> simp_all
theorem RsAt.news {w : World} {g n c : Nat} {rs : List Ro} (h : RsAt w (.slice (some ⟨g, 0, none⟩) n c) rs) : ∀ (j : Nat) (u : Value), (flatR rs)[j]? = some u → w.cell? ((⟨g, 0, none⟩ : Addr).add j) = some u := by
  intro j u hj
  rw [add0]
  obtain ⟨-, p, c', he, h1⟩ := h
  cases he
  have hl := (List.getElem?_eq_some_iff.1 hj).1
  rw [flatR_len] at hl
  have hk : j / 4 < rs.length := by omega
  obtain ⟨-, g', hg, hc⟩ := h1 (j / 4) hk
  cases hg
  have h4 := hc (j % 4) (by omega)
  rw [show j / 4 * 4 + j % 4 = j by omega] at h4
  rw [h4, ← flatR_get rs (j / 4) hk (j % 4) (by omega), show j / 4 * 4 + j % 4 = j by omega]
  exact hj
theorem FsAt.news {w : World} {g n c : Nat} {fs : List Fc} (h : FsAt w (.slice (some ⟨g, 0, none⟩) n c) fs) : ∀ (j : Nat) (u : Value), (flatF fs)[j]? = some u → w.cell? ((⟨g, 0, none⟩ : Addr).add j) = some u := by
  intro j u hj
  rw [add0]
  obtain ⟨-, p, c', he, h1⟩ := h
  cases he
  have hl := (List.getElem?_eq_some_iff.1 hj).1
  rw [flatF_len] at hl
  have hk : j / 5 < fs.length := by omega
  obtain ⟨-, g', hg, hc⟩ := h1 (j / 5) hk
  cases hg
  have h4 := hc (j % 5) (by omega)
  rw [show j / 5 * 5 + j % 5 = j by omega] at h4
  rw [h4, ← flatF_get fs (j / 5) hk (j % 5) (by omega), show j / 5 * 5 + j % 5 = j by omega]
  exact hj
theorem flatR_one (rs : List Ro) : ∀ u, u ∈ flatR rs → u.oneCell' = true := by
  intro u hu
  obtain ⟨r, -, h⟩ := List.mem_flatMap.1 hu
  simp at h
  rcases h with rfl | rfl | rfl | rfl <;> rfl
theorem flatF_one (fs : List Fc) : ∀ u, u ∈ flatF fs → u.oneCell' = true := by
  intro u hu
  obtain ⟨r, -, h⟩ := List.mem_flatMap.1 hu
  simp at h
  rcases h with rfl | rfl | rfl | rfl | rfl <;> rfl
/-- the empty literal, as a row of one's own -/
theorem row_empty (w : World) (t : TypeId) (size base : Nat) (hb : base ≤ w.heap.size) : (w.alloc (.cells #[] t)).ownsRow base t size (.slice (some ⟨w.heap.size, 0, none⟩) 0 0) 0 [] :=
  ⟨by simp, .inr ⟨w.heap.size, 0, #[], rfl, hb, blk_new w _, Nat.le_refl _, Nat.zero_le _, by simp, by simp⟩⟩
end Go.Proofs.Ytgfcpimklmgnbaa

/- Small facts on blocks. -/
import Derived.Test.YtpkfjlbjahghgaaArEnc
import Derived.Deep.RegionHeld3
import Derived.Below
import Derived.RangeFuncRecord
import Derived.RangeFuncOwn
namespace Go.Proofs.Ytpkfjlbjahghgaa
open Go.RowKit
theorem blk_new (W : World) (o : Obj) : (W.alloc o).heap[W.heap.size]? = some o := World.alloc_heap_new W o
theorem blk_lt {W : World} {B : Nat} {o : Obj} (h : W.heap[B]? = some o) : B < W.heap.size := (Array.getElem?_eq_some_iff.1 h).1
theorem blk_alloc {W : World} {B : Nat} {o : Obj} (h : W.heap[B]? = some o) (o' : Obj) : (W.alloc o').heap[B]? = some o := (Below.heap_alloc W o' B (blk_lt h)).trans h
theorem blk_below {W W' : World} {B n : Nat} {o : Obj} (h : W.heap[B]? = some o) (hb : Below n W W') (hn : B < n) : W'.heap[B]? = some o := (hb.block B hn).trans h
theorem blk_set {W : World} {B : Nat} {o : Obj} (h : W.heap[B]? = some o) (p : Addr) (hp : p.block ≠ B) (v : Value) : (W.setCell p v).heap[B]? = some o := (Below.heap_setCell W p v B (fun e => hp e.symm)).trans h
theorem cells_own {β : Type} (B : Nat) (cs : β → Array Value) (t : TypeId) : Own (fun s W => W.heap[B]? = some (.cells (cs s) t (0, 0))) := fun s X Y row hs hg hrow =>
  (hg.block B (blk_lt hs) (fun e' => by obtain ⟨o, ho, hc⟩ := hrow B e'.symm; rw [hs] at ho; cases ho; cases hc)).trans hs
theorem blk_cell {W : World} {B k : Nat} {cs : Array Value} {t : TypeId} {v : Value} (h : W.heap[B]? = some (.cells cs t (0, 0))) (hv : cs[k]? = some v) : W.cell? ⟨B, k, none⟩ = some v ∧ W.frozen? ⟨B, k, none⟩ = false := by
  constructor <;> simp [World.cell?, World.frozen?, h, hv]
theorem cell_lt {W : World} {a : Addr} {v : Value} (h : W.cell? a = some v) : a.block < W.heap.size := World.block_lt_of_cell? W a h
theorem cell_alloc {W : World} {a : Addr} {v : Value} (h : W.cell? a = some v) (o : Obj) : (W.alloc o).cell? a = some v := by
  rw [World.cell?_of_block (Below.heap_alloc W o a.block (cell_lt h))]; exact h
/-- a block of another type than the row's is as it was behind the append and the store -/
theorem blk_appended {W w1 : World} {tmp : Obj} {k B n₀ size m : Nat} {cs : Array Value} {t e : TypeId} {v : Value} {xs : List Value} (h : W.heap[k]? = some (.cells cs t (0, 0))) (hte : t ≠ e) (hr : W.ownsRow n₀ e size v m xs)
    (hg : (W.alloc tmp).grownBy w1 v.ownBlock) (hkB : B ≠ k) (v' : Value) : w1.heap[k]? = some (.cells cs t (0, 0)) ∧ (w1.setCell ⟨B, 0, none⟩ v').heap[k]? = some (.cells cs t (0, 0)) := by
  have h1 : w1.heap[k]? = some (.cells cs t (0, 0)) := by
    refine (hg.block k (blk_lt (blk_alloc h tmp)) (fun e' => ?_)).trans (blk_alloc h tmp)
    rcases hr.2 with ⟨rfl, _⟩ | ⟨g, cap, cur, rfl, _, hgb, _⟩
    · simp [Value.ownBlock] at e'
    · obtain rfl : k = g := by simpa [Value.ownBlock] using e'
      rw [hgb] at h
      simp at h
      exact hte h.2.symm
  exact ⟨h1, blk_set h1 _ hkB _⟩
theorem blk_setc {W : World} {B k : Nat} {cs : Array Value} {t : TypeId} {fz : Nat × Nat} (h : W.heap[B]? = some (.cells cs t fz)) (v : Value) : (W.setCell ⟨B, k, none⟩ v).heap[B]? = some (.cells (cs.setIfInBounds k v) t fz) := by
  obtain ⟨hlt, hk⟩ := Array.getElem?_eq_some_iff.1 h
  show (W.heap.modify B _)[B]? = _
  rw [Array.getElem?_eq_getElem (by rw [Array.size_modify]; exact hlt), Array.getElem_modify_self, hk]
  rfl
/-- a message's five cells written one after the other -/
abbrev set5 (W : World) (N : Nat) (o f m t n : Int) : World := ((((W.setCell ⟨N, 0, none⟩ (.int .i64 o)).setCell ⟨N, 1, none⟩ (.int .i64 f)).setCell ⟨N, 2, none⟩ (.int .i64 m)).setCell ⟨N, 3, none⟩ (.int .i64 t)).setCell ⟨N, 4, none⟩ (.int .i64 n)
theorem set5_res {W : World} {N : Nat} {o0 f0 m0 t0 n0 : Int} (h : W.heap[N]? = some (ao o0 f0 m0 t0 n0)) (o f m t n : Int) : (set5 W N o f m t n).heap[N]? = some (ao o f m t n) :=
  blk_setc (k := 4) (blk_setc (k := 3) (blk_setc (k := 2) (blk_setc (k := 1) (blk_setc (k := 0) h (.int .i64 o)) (.int .i64 f)) (.int .i64 m)) (.int .i64 t)) (.int .i64 n)
theorem set5_below {w W : World} {N : Nat} (hb : Below w.heap.size w W) (hN : w.heap.size ≤ N) (o f m t n : Int) : Below w.heap.size w (set5 W N o f m t n) :=
  ((((hb.setCell (p := ⟨N, 0, none⟩) hN _).setCell (p := ⟨N, 1, none⟩) hN _).setCell (p := ⟨N, 2, none⟩) hN _).setCell (p := ⟨N, 3, none⟩) hN _).setCell (p := ⟨N, 4, none⟩) hN _
end Go.Proofs.Ytpkfjlbjahghgaa

/- Datagrams and headers as plain values; small facts on blocks. No program here. -/
import Derived.Test.YtidjbpglpobigaaDoorRefGet
import Derived.Test.YtidjbpglpobigaaDoorSumMath
import Derived.Deep.RegionHeld3
import Derived.Below
import Derived.Handy
import Derived.RangeFuncRecord
import Derived.RangeFuncOwn
namespace Go.Proofs.YtidjbpglpobigaaDoor
open Go.RowKit
set_option linter.unusedVariables false

/-- a datagram -/
structure Pk where
  fr : Int
  to : Int
  pr : Int
  tt : Int
  id : Int
  df : Bool
  mf : Bool
  off : Int
  s : ByteArray
abbrev pv (p : Pk) : Value := .agg #[.int .i64 p.fr, .int .i64 p.to, .int .i64 p.pr, .int .i64 p.tt, .int .i64 p.id, .bool p.df, .bool p.mf, .int .i64 p.off, .string p.s]
abbrev po (p : Pk) : Obj := .cells #[.int .i64 p.fr, .int .i64 p.to, .int .i64 p.pr, .int .i64 p.tt, .int .i64 p.id, .bool p.df, .bool p.mf, .int .i64 p.off, .string p.s] 31
abbrev pz : Pk := ⟨0, 0, 0, 0, 0, false, false, 0, ⟨#[]⟩⟩
/-- a header: the datagram, then version, flags, units, length, sum -/
abbrev hv (p : Pk) (v f u l c : Int) : Value := .agg #[.int .i64 p.fr, .int .i64 p.to, .int .i64 p.pr, .int .i64 p.tt, .int .i64 p.id, .bool p.df, .bool p.mf, .int .i64 p.off, .string p.s, .int .i64 v, .int .i64 f, .int .i64 u, .int .i64 l, .int .i64 c]
abbrev ho (p : Pk) (v f u l c : Int) : Obj := .cells #[.int .i64 p.fr, .int .i64 p.to, .int .i64 p.pr, .int .i64 p.tt, .int .i64 p.id, .bool p.df, .bool p.mf, .int .i64 p.off, .string p.s, .int .i64 v, .int .i64 f, .int .i64 u, .int .i64 l, .int .i64 c] 97

def okU (a : Int) : Prop := 1 ≤ a ∧ a ≤ 4294967294
def okN (p : Pk) : Prop := 0 ≤ p.pr ∧ p.pr ≤ 255 ∧ 1 ≤ p.tt ∧ p.tt ≤ 255 ∧ 0 ≤ p.id ∧ p.id ≤ 65535
def okP (p : Pk) (n : Int) : Prop := 0 ≤ p.off ∧ p.off ≤ 4000 - n ∧ p.off % 8 = 0
def okD (p : Pk) (n : Int) : Prop := (p.mf = false ∧ p.off = 0) ∨ (p.df = false ∧ 0 < n ∧ (n % 8 = 0 ∨ p.mf = false))
/-- valid with a payload of n bytes -/
def okW (p : Pk) (n : Int) : Prop := okU p.fr ∧ (okU p.to ∨ p.to = 4294967295) ∧ okN p ∧ okP p n ∧ okD p n
instance (a : Int) : Decidable (okU a) := by unfold okU; infer_instance
instance (p : Pk) : Decidable (okN p) := by unfold okN; infer_instance
instance (p : Pk) (n : Int) : Decidable (okP p n) := by unfold okP; infer_instance
instance (p : Pk) (n : Int) : Decidable (okD p n) := by unfold okD; infer_instance
instance (p : Pk) (n : Int) : Decidable (okW p n) := by unfold okW; infer_instance

theorem blk_new (W : World) (o : Obj) : (W.alloc o).heap[W.heap.size]? = some o := World.alloc_heap_new W o
theorem blk_lt {W : World} {B : Nat} {o : Obj} (h : W.heap[B]? = some o) : B < W.heap.size := (Array.getElem?_eq_some_iff.1 h).1
theorem blk_alloc {W : World} {B : Nat} {o : Obj} (h : W.heap[B]? = some o) (o' : Obj) : (W.alloc o').heap[B]? = some o := (Below.heap_alloc W o' B (blk_lt h)).trans h
theorem blk_below {W W' : World} {B n : Nat} {o : Obj} (h : W.heap[B]? = some o) (hb : Below n W W') (hn : B < n) : W'.heap[B]? = some o := (hb.block B hn).trans h
theorem blk_set {W : World} {B : Nat} {o : Obj} (h : W.heap[B]? = some o) (p : Addr) (hp : p.block ≠ B) (v : Value) : (W.setCell p v).heap[B]? = some o := (Below.heap_setCell W p v B (fun e => hp e.symm)).trans h
theorem cells_own {β : Type} (B : Nat) (cs : β → Array Value) (t : TypeId) : Own (fun s W => W.heap[B]? = some (.cells (cs s) t (0, 0))) := fun s X Y row hs hg hrow =>
  (hg.block B (blk_lt hs) (fun e' => by obtain ⟨o, ho, hc⟩ := hrow B e'.symm; rw [hs] at ho; cases ho; cases hc)).trans hs
theorem blk_cell {W : World} {B k : Nat} {cs : Array Value} {t : TypeId} {v : Value} (h : W.heap[B]? = some (.cells cs t (0, 0))) (hv : cs[k]? = some v) : W.cell? ⟨B, k, none⟩ = some v ∧ W.frozen? ⟨B, k, none⟩ = false := by
  constructor <;> simp [World.cell?, World.frozen?, h, hv]
theorem cell_lt {W : World} {a : Addr} {v : Value} (h : W.cell? a = some v) : a.block < W.heap.size := World.block_lt_of_cell? W a h
theorem cell_alloc {W : World} {a : Addr} {v : Value} (h : W.cell? a = some v) (o : Obj) : (W.alloc o).cell? a = some v := by
  rw [World.cell?_of_block (Below.heap_alloc W o a.block (cell_lt h))]; exact h
theorem blk_setc {W : World} {B k : Nat} {cs : Array Value} {t : TypeId} {fz : Nat × Nat} (h : W.heap[B]? = some (.cells cs t fz)) (v : Value) : (W.setCell ⟨B, k, none⟩ v).heap[B]? = some (.cells (cs.setIfInBounds k v) t fz) := by
  obtain ⟨hlt, hk⟩ := Array.getElem?_eq_some_iff.1 h
  show (W.heap.modify B _)[B]? = _
  rw [Array.getElem?_eq_getElem (by rw [Array.size_modify]; exact hlt), Array.getElem_modify_self, hk]
  rfl
theorem keeps_below {w w' : World} (hb : Below w.heap.size w w') : KeepsOthers w w' := ⟨hb.size, fun k _ hk _ => (hb.block k (blk_lt hk)).trans hk⟩
end Go.Proofs.YtidjbpglpobigaaDoor

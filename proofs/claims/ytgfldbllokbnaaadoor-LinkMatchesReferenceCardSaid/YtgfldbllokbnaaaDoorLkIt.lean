/- Contract of link.fixedFields: the iterator over the four fixed fields. -/
import Derived.Test.YtgfldbllokbnaaaDoorLkV
import Derived.RangeFuncNested
import Derived.RangeFuncBound
import Derived.RangeFuncCalls
import Derived.RangeFuncLeaves
import Derived.Shelf.Abstract
import Derived.Shelf.RegionOpen
import Derived.WalkKit
import Derived.OwnWalkIn
import Derived.TacticsInMore
import Derived.LoopNIn
import Derived.LoopIn
namespace Go.Proofs.YtgfldbllokbnaaaDoor
open Go.RowKit Go.Shelf
attribute [local go_sem] Oper.semAt_some

/-- where a field lies -/
def fAt (Fb Lb : Nat) : Fin 4 → Addr
  | 0 => ⟨Fb, 0, none⟩
  | 1 => ⟨Fb, 1, none⟩
  | 2 => ⟨Fb, 2, none⟩
  | 3 => ⟨Lb, 0, none⟩
/-- its size -/
def fSz : Fin 4 → Int
  | 0 => 2
  | 1 => 2
  | 2 => 1
  | 3 => 2
def fenc (Fb Lb : Nat) (i : Fin 4) : Array Value := #[.pointer (some (fAt Fb Lb i)), .int .i64 (fSz i)]
def fAll : List (Fin 4) := [0, 1, 2, 3]
/-- what a round must keep: the two captured variables -/
def KpF (B : Nat) (W W' : World) : Prop := W'.heap[B]? = W.heap[B]? ∧ W'.heap[B + 1]? = W.heap[B + 1]?
theorem KpF.cells {B : Nat} {W W' : World} (h : KpF B W W') {p q : Value} (h1 : W.cell? ⟨B, 0, none⟩ = some p) (h2 : W.cell? ⟨B + 1, 0, none⟩ = some q) : W'.cell? ⟨B, 0, none⟩ = some p ∧ W'.cell? ⟨B + 1, 0, none⟩ = some q :=
  ⟨(World.cell?_of_block (a := ⟨B, 0, none⟩) h.1).trans h1, (World.cell?_of_block (a := ⟨B + 1, 0, none⟩) h.2).trans h2⟩

set_option maxRecDepth 100000 in
set_option maxHeartbeats 1600000 in
theorem fields1_in (F : Fence) (n : Nat) (hf : F.fn 33) (hro : F.round = none) (hn : 1 ≤ n) (l B Fb Lb : Nat) (J Jx : List (Fin 4) → World → Prop)
    (hY : ∀ pre x W, J pre W → pre.length < 4 → YieldAt F (n - 1) Tryd.prog l (fenc Fb Lb x) W fun e W' =>
      (e = .returned (.bool true) ∧ J (pre ++ [x]) W' ∧ KpF B W W') ∨ (e = .returned (.bool false) ∧ Jx (pre ++ [x]) W'))
    (W : World) (h1 : W.cell? ⟨B, 0, none⟩ = some (.pointer (some ⟨Fb, 0, none⟩))) (h2 : W.cell? ⟨B + 1, 0, none⟩ = some (.pointer (some ⟨Lb, 0, none⟩))) (h0 : J [] W) :
    CallsIn F n Tryd.prog 33 #[.func (.yield l) #[] #[], .pointer (some ⟨B, 0, none⟩), .pointer (some ⟨B + 1, 0, none⟩)] W fun e W' => (∃ v, e = .returned v) ∧
      ((∃ ys, ys = fAll ∧ J ys W') ∨ (∃ pre, pre <+: fAll ∧ Jx pre W')) := by
  refine callsIn_of_wp Tryd.func33 rfl hf ?_ hro
  simp only [Tryd.ntmps33, List.size_toArray, List.length_cons, List.length_nil, Nat.reduceAdd, Nat.reduceSub, Array.replicate_succ, Array.replicate_zero, List.push_toArray, List.append_toArray, List.nil_append, List.cons_append]
  have y0 := hY [] 0 W h0 (by decide)
  obtain ⟨fn, tmps, assign, body, hy, hR⟩ := y0
  simp only [fenc, fAt, fSz] at hy
  gi_wp2
  refine hR.mono ?_
  rintro e W1 (⟨rfl, hJ1, hk1⟩ | ⟨rfl, hJx1⟩)
  · obtain ⟨c1, d1⟩ := hk1.cells h1 h2
    obtain ⟨fn1, tmps1, assign1, body1, hy1, hR1⟩ := hY _ 1 W1 hJ1 (by decide)
    simp only [fenc, fAt, fSz] at hy1
    clear hy hR
    gi_wp2
    refine hR1.mono ?_
    rintro e W2 (⟨rfl, hJ2, hk2⟩ | ⟨rfl, hJx2⟩)
    · obtain ⟨c2, d2⟩ := hk2.cells c1 d1
      obtain ⟨fn2, tmps2, assign2, body2, hy2, hR2⟩ := hY _ 2 W2 hJ2 (by decide)
      simp only [fenc, fAt, fSz] at hy2
      clear hy1 hR1
      gi_wp2
      refine hR2.mono ?_
      rintro e W3 (⟨rfl, hJ3, hk3⟩ | ⟨rfl, hJx3⟩)
      · obtain ⟨c3, d3⟩ := hk3.cells c2 d2
        obtain ⟨fn3, tmps3, assign3, body3, hy3, hR3⟩ := hY _ 3 W3 hJ3 (by decide)
        simp only [fenc, fAt, fSz] at hy3
        clear hy2 hR2
        gi_wp2
        refine hR3.mono ?_
        rintro e W4 (⟨rfl, hJ4, hk4⟩ | ⟨rfl, hJx4⟩)
        · gi_wp2
          go_end0
          exact ⟨⟨_, rfl⟩, .inl ⟨_, rfl, hJ4⟩⟩
        · gi_wp2
          go_end0
          exact ⟨⟨_, rfl⟩, .inr ⟨_, ⟨[], rfl⟩, hJx4⟩⟩
      · gi_wp2
        repeat' (refine And.intro (a := ∀ (f : FuncId), (none : Option FuncId) = some f → F.fn f) ?_ ?_; (intro f h; cases h); gi_wp2)
        all_goals go_end0
        all_goals exact ⟨⟨_, rfl⟩, .inr ⟨_, ⟨[3], rfl⟩, hJx3⟩⟩
    · gi_wp2
      repeat' (refine And.intro (a := ∀ (f : FuncId), (none : Option FuncId) = some f → F.fn f) ?_ ?_; (intro f h; cases h); gi_wp2)
      all_goals go_end0
      all_goals exact ⟨⟨_, rfl⟩, .inr ⟨_, ⟨[2, 3], rfl⟩, hJx2⟩⟩
  · gi_wp2
    repeat' (refine And.intro (a := ∀ (f : FuncId), (none : Option FuncId) = some f → F.fn f) ?_ ?_; (intro f h; cases h); gi_wp2)
    all_goals go_end0
    all_goals exact ⟨⟨_, rfl⟩, .inr ⟨_, ⟨[1, 2, 3], rfl⟩, hJx1⟩⟩

/-- link.fixedFields: the function value that it hands back -/
theorem fields_in (F : Fence) (n : Nat) (hf : F.fn 23) (hro : F.round = none) (Fb Lb : Nat) (w : World) :
    CallsIn F n Tryd.prog 23 #[.pointer (some ⟨Fb, 0, none⟩), .pointer (some ⟨Lb, 0, none⟩)] w fun e w' => e = .returned (.func (.func 33) #[] #[.pointer (some ⟨w.heap.size, 0, none⟩), .pointer (some ⟨w.heap.size + 1, 0, none⟩)]) ∧
      w' = (w.alloc (.cells #[.pointer (some ⟨Fb, 0, none⟩)] 47)).alloc (.cells #[.pointer (some ⟨Lb, 0, none⟩)] 48) := by
  refine callsIn_of_wp Tryd.func23 rfl hf ?_ hro
  simp only [Tryd.ntmps23, List.size_toArray, List.length_cons, List.length_nil, Nat.reduceAdd, Nat.reduceSub, Array.replicate_succ, Array.replicate_zero, List.push_toArray, List.append_toArray, List.nil_append, List.cons_append]
  gi_wp2
  go_ret
  exact ⟨rfl, rfl⟩

theorem fields_stops (F : Fence) (n : Nat) (hf : F.fn 33) (hro : F.round = none) (hn : 1 ≤ n) (B Fb Lb : Nat) (w : World) (hB : B + 1 < w.heap.size)
    (h1 : w.cell? ⟨B, 0, none⟩ = some (.pointer (some ⟨Fb, 0, none⟩))) (h2 : w.cell? ⟨B + 1, 0, none⟩ = some (.pointer (some ⟨Lb, 0, none⟩))) :
    SeqStopsK F n Tryd.prog 33 #[.pointer (some ⟨B, 0, none⟩), .pointer (some ⟨B + 1, 0, none⟩)] (fenc Fb Lb) (KpF B) (fun ys => ys = fAll) (fun pre => pre <+: fAll) 4 w :=
  fun l J Jx W hW _ _ hY h0 => fields1_in F n hf hro hn l B Fb Lb J Jx hY W ((hW.cell (p := ⟨B, 0, none⟩) (by show B < _; omega)).trans h1) ((hW.cell (p := ⟨B + 1, 0, none⟩) hB).trans h2) h0
end Go.Proofs.YtgfldbllokbnaaaDoor

/- Contract of (*icmp.message).fixedFields: the iterator over a message's four fields. -/
import Derived.Test.YtidjbpglpobigaaDoorImM
import Derived.RangeFuncNested
import Derived.RangeFuncBound
import Derived.RangeFuncCalls
import Derived.RangeFuncLeaves
import Derived.Shelf.Abstract
import Derived.Shelf.RegionOpen
import Derived.WalkKit
import Derived.OwnWalkIn
import Derived.TacticsInMore
import Derived.LoopNIn
import Derived.LoopIn
namespace Go.Proofs.YtidjbpglpobigaaDoor
open Go.RowKit Go.Shelf
attribute [local go_sem] Oper.semAt_some

def mKo : Fin 4 → Nat
  | 0 => 0
  | 1 => 1
  | 2 => 4
  | 3 => 2
def mSzN : Fin 4 → Nat
  | 0 => 1
  | 1 => 1
  | 2 => 2
  | 3 => 4
def mSz : Fin 4 → Int
  | 0 => 1
  | 1 => 1
  | 2 => 2
  | 3 => 4
def mAt (Fb o : Nat) (i : Fin 4) : Addr := ⟨Fb, o + mKo i, none⟩
def menc (Fb o : Nat) (i : Fin 4) : Array Value := #[.agg #[.pointer (some (mAt Fb o i)), .int .i64 (mSz i)]]
def mAll : List (Fin 4) := [0, 1, 2, 3]
theorem fin4 (x : Fin 4) : x = 0 ∨ x = 1 ∨ x = 2 ∨ x = 3 := by revert x; decide
theorem mSz_N (x : Fin 4) : mSz x = (mSzN x : Int) ∧ 1 ≤ mSzN x ∧ mSzN x ≤ 4 := by
  obtain rfl | rfl | rfl | rfl := fin4 x
  all_goals exact ⟨rfl, by decide, by decide⟩
def MpF (B : Nat) (W W' : World) : Prop := W'.heap[B]? = W.heap[B]?
theorem MpF.cells {B : Nat} {W W' : World} (h : MpF B W W') {p : Value} (h1 : W.cell? ⟨B, 0, none⟩ = some p) : W'.cell? ⟨B, 0, none⟩ = some p :=
  (World.cell?_of_block (a := ⟨B, 0, none⟩) h).trans h1

set_option maxRecDepth 100000 in
set_option maxHeartbeats 6400000 in
theorem mfields1_in (F : Fence) (n : Nat) (hf : F.fn 90) (hro : F.round = none) (hn : 1 ≤ n) (l B Fb o : Nat) (J Jx : List (Fin 4) → World → Prop)
    (hY : ∀ pre x W, J pre W → pre.length < 4 → YieldAt F (n - 1) Tryd.prog l (menc Fb o x) W fun e W' =>
      (e = .returned (.bool true) ∧ J (pre ++ [x]) W' ∧ MpF B W W') ∨ (e = .returned (.bool false) ∧ Jx (pre ++ [x]) W'))
    (W : World) (h1 : W.cell? ⟨B, 0, none⟩ = some (.pointer (some ⟨Fb, o, none⟩))) (h0 : J [] W) :
    CallsIn F n Tryd.prog 90 #[.func (.yield l) #[] #[], .pointer (some ⟨B, 0, none⟩)] W fun e W' => (∃ v, e = .returned v) ∧
      ((∃ ys, ys = mAll ∧ J ys W') ∨ (∃ pre, pre <+: mAll ∧ Jx pre W')) := by
  refine callsIn_of_wp Tryd.func90 rfl hf ?_ hro
  simp only [Tryd.ntmps90, List.size_toArray, List.length_cons, List.length_nil, Nat.reduceAdd, Nat.reduceSub, Array.replicate_succ, Array.replicate_zero, List.push_toArray, List.append_toArray, List.nil_append, List.cons_append]
  obtain ⟨fn, tmps, assign, body, hy, hR⟩ := hY [] 0 W h0 (by decide)
  simp only [menc, mAt, mKo, mSz, Nat.add_zero] at hy
  gi_wp2
  refine hR.mono ?_
  rintro e W1 (⟨rfl, hJ1, hk1⟩ | ⟨rfl, hJx1⟩)
  · have c1 := hk1.cells h1
    obtain ⟨fn1, tmps1, assign1, body1, hy1, hR1⟩ := hY _ 1 W1 hJ1 (by decide)
    simp only [menc, mAt, mKo, mSz] at hy1
    clear hy hR
    gi_wp2
    refine hR1.mono ?_
    rintro e W2 (⟨rfl, hJ2, hk2⟩ | ⟨rfl, hJx2⟩)
    · have c2 := hk2.cells c1
      obtain ⟨fn2, tmps2, assign2, body2, hy2, hR2⟩ := hY _ 2 W2 hJ2 (by decide)
      simp only [menc, mAt, mKo, mSz] at hy2
      clear hy1 hR1
      gi_wp2
      refine hR2.mono ?_
      rintro e W3 (⟨rfl, hJ3, hk3⟩ | ⟨rfl, hJx3⟩)
      · have c3 := hk3.cells c2
        obtain ⟨fn3, tmps3, assign3, body3, hy3, hR3⟩ := hY _ 3 W3 hJ3 (by decide)
        simp only [menc, mAt, mKo, mSz] at hy3
        clear hy2 hR2
        gi_wp2
        refine hR3.mono ?_
        rintro e W4 (⟨rfl, hJ4, hk4⟩ | ⟨rfl, hJx4⟩)
        · gi_wp2
          go_end0
          exact ⟨⟨_, rfl⟩, .inl ⟨_, rfl, hJ4⟩⟩
        · gi_wp2
          all_goals go_end0
          all_goals exact ⟨⟨_, rfl⟩, .inr ⟨_, ⟨[], rfl⟩, hJx4⟩⟩
      · gi_wp2
        repeat' (refine And.intro (a := ∀ (f : FuncId), (none : Option FuncId) = some f → F.fn f) ?_ ?_; (intro f h; cases h); gi_wp2)
        all_goals go_end0
        all_goals exact ⟨⟨_, rfl⟩, .inr ⟨_, ⟨[3], rfl⟩, hJx3⟩⟩
    · gi_wp2
      repeat' (refine And.intro (a := ∀ (f : FuncId), (none : Option FuncId) = some f → F.fn f) ?_ ?_; (intro f h; cases h); gi_wp2)
      all_goals go_end0
      all_goals exact ⟨⟨_, rfl⟩, .inr ⟨_, ⟨[2, 3], rfl⟩, hJx2⟩⟩
  · gi_wp2
    repeat' (refine And.intro (a := ∀ (f : FuncId), (none : Option FuncId) = some f → F.fn f) ?_ ?_; (intro f h; cases h); gi_wp2)
    all_goals go_end0
    all_goals exact ⟨⟨_, rfl⟩, .inr ⟨_, ⟨[1, 2, 3], rfl⟩, hJx1⟩⟩

/-- fixedFields: the function value that it hands back -/
theorem mfields_in (F : Fence) (n : Nat) (hf : F.fn 68) (hro : F.round = none) (Fb o : Nat) (w : World) :
    CallsIn F n Tryd.prog 68 #[.pointer (some ⟨Fb, o, none⟩)] w fun e w' => e = .returned (.func (.func 90) #[] #[.pointer (some ⟨w.heap.size, 0, none⟩)]) ∧
      w' = w.alloc (.cells #[.pointer (some ⟨Fb, o, none⟩)] 148) := by
  refine callsIn_of_wp Tryd.func68 rfl hf ?_ hro
  simp only [Tryd.ntmps68, List.size_toArray, List.length_cons, List.length_nil, Nat.reduceAdd, Nat.reduceSub, Array.replicate_succ, Array.replicate_zero, List.push_toArray, List.append_toArray, List.nil_append, List.cons_append]
  gi_wp2
  go_ret
  exact ⟨rfl, rfl⟩

theorem mfields_stops (F : Fence) (n : Nat) (hf : F.fn 90) (hro : F.round = none) (hn : 1 ≤ n) (B Fb o : Nat) (w : World) (hB : B < w.heap.size)
    (h1 : w.cell? ⟨B, 0, none⟩ = some (.pointer (some ⟨Fb, o, none⟩))) :
    SeqStopsK F n Tryd.prog 90 #[.pointer (some ⟨B, 0, none⟩)] (menc Fb o) (MpF B) (fun ys => ys = mAll) (fun pre => pre <+: mAll) 4 w :=
  fun l J Jx W hW _ _ hY h0 => mfields1_in F n hf hro hn l B Fb o J Jx hY W ((hW.cell (p := ⟨B, 0, none⟩) hB).trans h1) h0
end Go.Proofs.YtidjbpglpobigaaDoor

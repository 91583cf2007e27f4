/- Contract of arp.fields: the iterator over a message's five fields. -/
import Derived.Test.YtpkfjlbjahghgaaArMem
import Derived.RangeFuncNested
import Derived.RangeFuncBound
import Derived.RangeFuncCalls
import Derived.RangeFuncLeaves
import Derived.Shelf.Abstract
import Derived.Shelf.RegionOpen
import Derived.WalkKit
import Derived.OwnWalkIn
import Derived.TacticsInMore
import Derived.LoopNIn
import Derived.LoopIn
namespace Go.Proofs.Ytpkfjlbjahghgaa
open Go.RowKit Go.Shelf
attribute [local go_sem] Oper.semAt_some

def fAt (Fb : Nat) : Fin 5 → Addr
  | 0 => ⟨Fb, 0, none⟩
  | 1 => ⟨Fb, 1, none⟩
  | 2 => ⟨Fb, 2, none⟩
  | 3 => ⟨Fb, 3, none⟩
  | 4 => ⟨Fb, 4, none⟩
def fSz : Fin 5 → Int
  | 0 => 1
  | 1 => 4
  | 2 => 2
  | 3 => 4
  | 4 => 2
def fenc (Fb : Nat) (i : Fin 5) : Array Value := #[.pointer (some (fAt Fb i)), .int .i64 (fSz i)]
def fAll : List (Fin 5) := [0, 1, 2, 3, 4]
def KpF (B : Nat) (W W' : World) : Prop := W'.heap[B]? = W.heap[B]?
theorem KpF.cells {B : Nat} {W W' : World} (h : KpF B W W') {p : Value} (h1 : W.cell? ⟨B, 0, none⟩ = some p) : W'.cell? ⟨B, 0, none⟩ = some p :=
  (World.cell?_of_block (a := ⟨B, 0, none⟩) h).trans h1

set_option maxRecDepth 100000 in
set_option maxHeartbeats 3200000 in
theorem fields1_in (F : Fence) (n : Nat) (hf : F.fn 58) (hro : F.round = none) (hn : 1 ≤ n) (l B Fb : Nat) (J Jx : List (Fin 5) → World → Prop)
    (hY : ∀ pre x W, J pre W → pre.length < 5 → YieldAt F (n - 1) Try.prog l (fenc Fb x) W fun e W' =>
      (e = .returned (.bool true) ∧ J (pre ++ [x]) W' ∧ KpF B W W') ∨ (e = .returned (.bool false) ∧ Jx (pre ++ [x]) W'))
    (W : World) (h1 : W.cell? ⟨B, 0, none⟩ = some (.pointer (some ⟨Fb, 0, none⟩))) (h0 : J [] W) :
    CallsIn F n Try.prog 58 #[.func (.yield l) #[] #[], .pointer (some ⟨B, 0, none⟩)] W fun e W' => (∃ v, e = .returned v) ∧
      ((∃ ys, ys = fAll ∧ J ys W') ∨ (∃ pre, pre <+: fAll ∧ Jx pre W')) := by
  refine callsIn_of_wp Try.func58 rfl hf ?_ hro
  simp only [Try.ntmps58, List.size_toArray, List.length_cons, List.length_nil, Nat.reduceAdd, Nat.reduceSub, Array.replicate_succ, Array.replicate_zero, List.push_toArray, List.append_toArray, List.nil_append, List.cons_append]
  have y0 := hY [] 0 W h0 (by decide)
  obtain ⟨fn, tmps, assign, body, hy, hR⟩ := y0
  simp only [fenc, fAt, fSz] at hy
  gi_wp2
  refine hR.mono ?_
  rintro e W1 (⟨rfl, hJ1, hk1⟩ | ⟨rfl, hJx1⟩)
  · have c1 := hk1.cells h1
    obtain ⟨fn1, tmps1, assign1, body1, hy1, hR1⟩ := hY _ 1 W1 hJ1 (by decide)
    simp only [fenc, fAt, fSz] at hy1
    clear hy hR
    gi_wp2
    refine hR1.mono ?_
    rintro e W2 (⟨rfl, hJ2, hk2⟩ | ⟨rfl, hJx2⟩)
    · have c2 := hk2.cells c1
      obtain ⟨fn2, tmps2, assign2, body2, hy2, hR2⟩ := hY _ 2 W2 hJ2 (by decide)
      simp only [fenc, fAt, fSz] at hy2
      clear hy1 hR1
      gi_wp2
      refine hR2.mono ?_
      rintro e W3 (⟨rfl, hJ3, hk3⟩ | ⟨rfl, hJx3⟩)
      · have c3 := hk3.cells c2
        obtain ⟨fn3, tmps3, assign3, body3, hy3, hR3⟩ := hY _ 3 W3 hJ3 (by decide)
        simp only [fenc, fAt, fSz] at hy3
        clear hy2 hR2
        gi_wp2
        refine hR3.mono ?_
        rintro e W4 (⟨rfl, hJ4, hk4⟩ | ⟨rfl, hJx4⟩)
        · have c4 := hk4.cells c3
          obtain ⟨fn4, tmps4, assign4, body4, hy4, hR4⟩ := hY _ 4 W4 hJ4 (by decide)
          simp only [fenc, fAt, fSz] at hy4
          clear hy3 hR3
          gi_wp2
          refine hR4.mono ?_
          rintro e W5 (⟨rfl, hJ5, hk5⟩ | ⟨rfl, hJx5⟩)
          · gi_wp2
            go_end0
            exact ⟨⟨_, rfl⟩, .inl ⟨_, rfl, hJ5⟩⟩
          · gi_wp2
            go_end0
            exact ⟨⟨_, rfl⟩, .inr ⟨_, ⟨[], rfl⟩, hJx5⟩⟩
        · gi_wp2
          repeat' (refine And.intro (a := ∀ (f : FuncId), (none : Option FuncId) = some f → F.fn f) ?_ ?_; (intro f h; cases h); gi_wp2)
          all_goals go_end0
          all_goals exact ⟨⟨_, rfl⟩, .inr ⟨_, ⟨[4], rfl⟩, hJx4⟩⟩
      · gi_wp2
        repeat' (refine And.intro (a := ∀ (f : FuncId), (none : Option FuncId) = some f → F.fn f) ?_ ?_; (intro f h; cases h); gi_wp2)
        all_goals go_end0
        all_goals exact ⟨⟨_, rfl⟩, .inr ⟨_, ⟨[3, 4], rfl⟩, hJx3⟩⟩
    · gi_wp2
      repeat' (refine And.intro (a := ∀ (f : FuncId), (none : Option FuncId) = some f → F.fn f) ?_ ?_; (intro f h; cases h); gi_wp2)
      all_goals go_end0
      all_goals exact ⟨⟨_, rfl⟩, .inr ⟨_, ⟨[2, 3, 4], rfl⟩, hJx2⟩⟩
  · gi_wp2
    repeat' (refine And.intro (a := ∀ (f : FuncId), (none : Option FuncId) = some f → F.fn f) ?_ ?_; (intro f h; cases h); gi_wp2)
    all_goals go_end0
    all_goals exact ⟨⟨_, rfl⟩, .inr ⟨_, ⟨[1, 2, 3, 4], rfl⟩, hJx1⟩⟩

/-- arp.fields: the function value that it hands back -/
theorem fields_in (F : Fence) (n : Nat) (hf : F.fn 37) (hro : F.round = none) (Fb : Nat) (w : World) :
    CallsIn F n Try.prog 37 #[.pointer (some ⟨Fb, 0, none⟩)] w fun e w' => e = .returned (.func (.func 58) #[] #[.pointer (some ⟨w.heap.size, 0, none⟩)]) ∧
      w' = w.alloc (.cells #[.pointer (some ⟨Fb, 0, none⟩)] 73) := by
  refine callsIn_of_wp Try.func37 rfl hf ?_ hro
  simp only [Try.ntmps37, List.size_toArray, List.length_cons, List.length_nil, Nat.reduceAdd, Nat.reduceSub, Array.replicate_succ, Array.replicate_zero, List.push_toArray, List.append_toArray, List.nil_append, List.cons_append]
  gi_wp2
  go_ret
  exact ⟨rfl, rfl⟩

theorem fields_stops (F : Fence) (n : Nat) (hf : F.fn 58) (hro : F.round = none) (hn : 1 ≤ n) (B Fb : Nat) (w : World) (hB : B < w.heap.size)
    (h1 : w.cell? ⟨B, 0, none⟩ = some (.pointer (some ⟨Fb, 0, none⟩))) :
    SeqStopsK F n Try.prog 58 #[.pointer (some ⟨B, 0, none⟩)] (fenc Fb) (KpF B) (fun ys => ys = fAll) (fun pre => pre <+: fAll) 5 w :=
  fun l J Jx W hW _ _ hY h0 => fields1_in F n hf hro hn l B Fb J Jx hY W ((hW.cell (p := ⟨B, 0, none⟩) hB).trans h1) h0
end Go.Proofs.Ytpkfjlbjahghgaa

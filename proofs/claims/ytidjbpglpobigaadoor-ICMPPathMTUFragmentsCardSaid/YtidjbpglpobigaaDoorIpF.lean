/- Contract of (*ip.header).numbers: the iterator over a header's ten numbers. -/
import Derived.Test.YtidjbpglpobigaaDoorIpM
import Derived.RangeFuncNested
import Derived.RangeFuncBound
import Derived.RangeFuncCalls
import Derived.RangeFuncLeaves
import Derived.Shelf.Abstract
import Derived.Shelf.RegionOpen
import Derived.WalkKit
import Derived.OwnWalkIn
import Derived.TacticsInMore
import Derived.LoopNIn
import Derived.LoopIn
namespace Go.Proofs.YtidjbpglpobigaaDoor
open Go.RowKit Go.Shelf
attribute [local go_sem] Oper.semAt_some

def fKo : Fin 10 → Nat
  | 0 => 9
  | 1 => 0
  | 2 => 1
  | 3 => 2
  | 4 => 3
  | 5 => 4
  | 6 => 10
  | 7 => 11
  | 8 => 12
  | 9 => 13
def nSz : Fin 10 → Nat
  | 0 => 1
  | 1 => 4
  | 2 => 4
  | 3 => 1
  | 4 => 1
  | 5 => 2
  | 6 => 1
  | 7 => 2
  | 8 => 2
  | 9 => 2
def fSz : Fin 10 → Int
  | 0 => 1
  | 1 => 4
  | 2 => 4
  | 3 => 1
  | 4 => 1
  | 5 => 2
  | 6 => 1
  | 7 => 2
  | 8 => 2
  | 9 => 2
def fAt (Fb o : Nat) (i : Fin 10) : Addr := ⟨Fb, o + fKo i, none⟩
def fenc (Fb o : Nat) (i : Fin 10) : Array Value := #[.pointer (some (fAt Fb o i)), .int .i64 (fSz i)]
def fAll : List (Fin 10) := [0, 1, 2, 3, 4, 5, 6, 7, 8, 9]
theorem fin10 (x : Fin 10) : x = 0 ∨ x = 1 ∨ x = 2 ∨ x = 3 ∨ x = 4 ∨ x = 5 ∨ x = 6 ∨ x = 7 ∨ x = 8 ∨ x = 9 := by revert x; decide
def KpF (B : Nat) (W W' : World) : Prop := W'.heap[B]? = W.heap[B]?
theorem KpF.cells {B : Nat} {W W' : World} (h : KpF B W W') {p : Value} (h1 : W.cell? ⟨B, 0, none⟩ = some p) : W'.cell? ⟨B, 0, none⟩ = some p :=
  (World.cell?_of_block (a := ⟨B, 0, none⟩) h).trans h1

set_option maxRecDepth 100000 in
set_option maxHeartbeats 6400000 in
theorem fields1_in (F : Fence) (n : Nat) (hf : F.fn 97) (hro : F.round = none) (hn : 1 ≤ n) (l B Fb o : Nat) (J Jx : List (Fin 10) → World → Prop)
    (hY : ∀ pre x W, J pre W → pre.length < 10 → YieldAt F (n - 1) Tryd.prog l (fenc Fb o x) W fun e W' =>
      (e = .returned (.bool true) ∧ J (pre ++ [x]) W' ∧ KpF B W W') ∨ (e = .returned (.bool false) ∧ Jx (pre ++ [x]) W'))
    (W : World) (h1 : W.cell? ⟨B, 0, none⟩ = some (.pointer (some ⟨Fb, o, none⟩))) (h0 : J [] W) :
    CallsIn F n Tryd.prog 97 #[.func (.yield l) #[] #[], .pointer (some ⟨B, 0, none⟩)] W fun e W' => (∃ v, e = .returned v) ∧
      ((∃ ys, ys = fAll ∧ J ys W') ∨ (∃ pre, pre <+: fAll ∧ Jx pre W')) := by
  refine callsIn_of_wp Tryd.func97 rfl hf ?_ hro
  simp only [Tryd.ntmps97, List.size_toArray, List.length_cons, List.length_nil, Nat.reduceAdd, Nat.reduceSub, Array.replicate_succ, Array.replicate_zero, List.push_toArray, List.append_toArray, List.nil_append, List.cons_append]
  obtain ⟨fn, tmps, assign, body, hy, hR⟩ := hY [] 0 W h0 (by decide)
  simp only [fenc, fAt, fKo, fSz] at hy
  gi_wp2
  refine hR.mono ?_
  rintro e W1 (⟨rfl, hJ1, hk1⟩ | ⟨rfl, hJx1⟩)
  · have c1 := hk1.cells h1
    obtain ⟨fn1, tmps1, assign1, body1, hy1, hR1⟩ := hY _ 1 W1 hJ1 (by decide)
    simp only [fenc, fAt, fKo, fSz, Nat.add_zero] at hy1
    clear hy hR
    gi_wp2
    refine hR1.mono ?_
    rintro e W2 (⟨rfl, hJ2, hk2⟩ | ⟨rfl, hJx2⟩)
    · have c2 := hk2.cells c1
      obtain ⟨fn2, tmps2, assign2, body2, hy2, hR2⟩ := hY _ 2 W2 hJ2 (by decide)
      simp only [fenc, fAt, fKo, fSz] at hy2
      clear hy1 hR1
      gi_wp2
      refine hR2.mono ?_
      rintro e W3 (⟨rfl, hJ3, hk3⟩ | ⟨rfl, hJx3⟩)
      · have c3 := hk3.cells c2
        obtain ⟨fn3, tmps3, assign3, body3, hy3, hR3⟩ := hY _ 3 W3 hJ3 (by decide)
        simp only [fenc, fAt, fKo, fSz] at hy3
        clear hy2 hR2
        gi_wp2
        refine hR3.mono ?_
        rintro e W4 (⟨rfl, hJ4, hk4⟩ | ⟨rfl, hJx4⟩)
        · have c4 := hk4.cells c3
          obtain ⟨fn4, tmps4, assign4, body4, hy4, hR4⟩ := hY _ 4 W4 hJ4 (by decide)
          simp only [fenc, fAt, fKo, fSz] at hy4
          clear hy3 hR3
          gi_wp2
          refine hR4.mono ?_
          rintro e W5 (⟨rfl, hJ5, hk5⟩ | ⟨rfl, hJx5⟩)
          · have c5 := hk5.cells c4
            obtain ⟨fn5, tmps5, assign5, body5, hy5, hR5⟩ := hY _ 5 W5 hJ5 (by decide)
            simp only [fenc, fAt, fKo, fSz] at hy5
            clear hy4 hR4
            gi_wp2
            refine hR5.mono ?_
            rintro e W6 (⟨rfl, hJ6, hk6⟩ | ⟨rfl, hJx6⟩)
            · have c6 := hk6.cells c5
              obtain ⟨fn6, tmps6, assign6, body6, hy6, hR6⟩ := hY _ 6 W6 hJ6 (by decide)
              simp only [fenc, fAt, fKo, fSz] at hy6
              clear hy5 hR5
              gi_wp2
              refine hR6.mono ?_
              rintro e W7 (⟨rfl, hJ7, hk7⟩ | ⟨rfl, hJx7⟩)
              · have c7 := hk7.cells c6
                obtain ⟨fn7, tmps7, assign7, body7, hy7, hR7⟩ := hY _ 7 W7 hJ7 (by decide)
                simp only [fenc, fAt, fKo, fSz] at hy7
                clear hy6 hR6
                gi_wp2
                refine hR7.mono ?_
                rintro e W8 (⟨rfl, hJ8, hk8⟩ | ⟨rfl, hJx8⟩)
                · have c8 := hk8.cells c7
                  obtain ⟨fn8, tmps8, assign8, body8, hy8, hR8⟩ := hY _ 8 W8 hJ8 (by decide)
                  simp only [fenc, fAt, fKo, fSz] at hy8
                  clear hy7 hR7
                  gi_wp2
                  refine hR8.mono ?_
                  rintro e W9 (⟨rfl, hJ9, hk9⟩ | ⟨rfl, hJx9⟩)
                  · have c9 := hk9.cells c8
                    obtain ⟨fn9, tmps9, assign9, body9, hy9, hR9⟩ := hY _ 9 W9 hJ9 (by decide)
                    simp only [fenc, fAt, fKo, fSz] at hy9
                    clear hy8 hR8
                    gi_wp2
                    refine hR9.mono ?_
                    rintro e W10 (⟨rfl, hJ10, hk10⟩ | ⟨rfl, hJx10⟩)
                    · gi_wp2
                      go_end0
                      exact ⟨⟨_, rfl⟩, .inl ⟨_, rfl, hJ10⟩⟩
                    · gi_wp2
                      all_goals go_end0
                      all_goals exact ⟨⟨_, rfl⟩, .inr ⟨_, ⟨[], rfl⟩, hJx10⟩⟩
                  · gi_wp2
                    repeat' (refine And.intro (a := ∀ (f : FuncId), (none : Option FuncId) = some f → F.fn f) ?_ ?_; (intro f h; cases h); gi_wp2)
                    all_goals go_end0
                    all_goals exact ⟨⟨_, rfl⟩, .inr ⟨_, ⟨[9], rfl⟩, hJx9⟩⟩
                · gi_wp2
                  repeat' (refine And.intro (a := ∀ (f : FuncId), (none : Option FuncId) = some f → F.fn f) ?_ ?_; (intro f h; cases h); gi_wp2)
                  all_goals go_end0
                  all_goals exact ⟨⟨_, rfl⟩, .inr ⟨_, ⟨[8, 9], rfl⟩, hJx8⟩⟩
              · gi_wp2
                repeat' (refine And.intro (a := ∀ (f : FuncId), (none : Option FuncId) = some f → F.fn f) ?_ ?_; (intro f h; cases h); gi_wp2)
                all_goals go_end0
                all_goals exact ⟨⟨_, rfl⟩, .inr ⟨_, ⟨[7, 8, 9], rfl⟩, hJx7⟩⟩
            · gi_wp2
              repeat' (refine And.intro (a := ∀ (f : FuncId), (none : Option FuncId) = some f → F.fn f) ?_ ?_; (intro f h; cases h); gi_wp2)
              all_goals go_end0
              all_goals exact ⟨⟨_, rfl⟩, .inr ⟨_, ⟨[6, 7, 8, 9], rfl⟩, hJx6⟩⟩
          · gi_wp2
            repeat' (refine And.intro (a := ∀ (f : FuncId), (none : Option FuncId) = some f → F.fn f) ?_ ?_; (intro f h; cases h); gi_wp2)
            all_goals go_end0
            all_goals exact ⟨⟨_, rfl⟩, .inr ⟨_, ⟨[5, 6, 7, 8, 9], rfl⟩, hJx5⟩⟩
        · gi_wp2
          repeat' (refine And.intro (a := ∀ (f : FuncId), (none : Option FuncId) = some f → F.fn f) ?_ ?_; (intro f h; cases h); gi_wp2)
          all_goals go_end0
          all_goals exact ⟨⟨_, rfl⟩, .inr ⟨_, ⟨[4, 5, 6, 7, 8, 9], rfl⟩, hJx4⟩⟩
      · gi_wp2
        repeat' (refine And.intro (a := ∀ (f : FuncId), (none : Option FuncId) = some f → F.fn f) ?_ ?_; (intro f h; cases h); gi_wp2)
        all_goals go_end0
        all_goals exact ⟨⟨_, rfl⟩, .inr ⟨_, ⟨[3, 4, 5, 6, 7, 8, 9], rfl⟩, hJx3⟩⟩
    · gi_wp2
      repeat' (refine And.intro (a := ∀ (f : FuncId), (none : Option FuncId) = some f → F.fn f) ?_ ?_; (intro f h; cases h); gi_wp2)
      all_goals go_end0
      all_goals exact ⟨⟨_, rfl⟩, .inr ⟨_, ⟨[2, 3, 4, 5, 6, 7, 8, 9], rfl⟩, hJx2⟩⟩
  · gi_wp2
    repeat' (refine And.intro (a := ∀ (f : FuncId), (none : Option FuncId) = some f → F.fn f) ?_ ?_; (intro f h; cases h); gi_wp2)
    all_goals go_end0
    all_goals exact ⟨⟨_, rfl⟩, .inr ⟨_, ⟨[1, 2, 3, 4, 5, 6, 7, 8, 9], rfl⟩, hJx1⟩⟩

/-- numbers: the function value that it hands back -/
theorem fields_in (F : Fence) (n : Nat) (hf : F.fn 82) (hro : F.round = none) (Fb o : Nat) (w : World) :
    CallsIn F n Tryd.prog 82 #[.pointer (some ⟨Fb, o, none⟩)] w fun e w' => e = .returned (.func (.func 97) #[] #[.pointer (some ⟨w.heap.size, 0, none⟩)]) ∧
      w' = w.alloc (.cells #[.pointer (some ⟨Fb, o, none⟩)] 163) := by
  refine callsIn_of_wp Tryd.func82 rfl hf ?_ hro
  simp only [Tryd.ntmps82, List.size_toArray, List.length_cons, List.length_nil, Nat.reduceAdd, Nat.reduceSub, Array.replicate_succ, Array.replicate_zero, List.push_toArray, List.append_toArray, List.nil_append, List.cons_append]
  gi_wp2
  go_ret
  exact ⟨rfl, rfl⟩

theorem fields_stops (F : Fence) (n : Nat) (hf : F.fn 97) (hro : F.round = none) (hn : 1 ≤ n) (B Fb o : Nat) (w : World) (hB : B < w.heap.size)
    (h1 : w.cell? ⟨B, 0, none⟩ = some (.pointer (some ⟨Fb, o, none⟩))) :
    SeqStopsK F n Tryd.prog 97 #[.pointer (some ⟨B, 0, none⟩)] (fenc Fb o) (KpF B) (fun ys => ys = fAll) (fun pre => pre <+: fAll) 10 w :=
  fun l J Jx W hW _ _ hY h0 => fields1_in F n hf hro hn l B Fb o J Jx hY W ((hW.cell (p := ⟨B, 0, none⟩) hB).trans h1) h0
end Go.Proofs.YtidjbpglpobigaaDoor

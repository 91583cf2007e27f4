/- Contract of Receive. -/
import Derived.Test.YtpkfjlbjahghgaaAtDef
import Derived.StillTailTactics
namespace Go.Proofs.Ytpkfjlbjahghgaa
open Go.RowKit Go.Maps
set_option linter.unusedVariables false
attribute [local go_sem] Oper.semAt_some

set_option maxRecDepth 20000 in
set_option maxHeartbeats 1600000 in
theorem recv_nil (now o f m t n : Int) (w : World) :
    Calls Try.prog 31 #[.pointer none, .int .i64 now, av o f m t n] w fun e w' => e = .returned (.tuple #[.slice none 0 0, .slice none 0 0]) ∧ Below w.heap.size w w' := by
  go_enter Try.func31, Try.ntmps31
  go_wp2
  go_ret2
  exact ⟨rfl, (Below.refl _ w).alloc (Nat.le_refl _) _⟩

set_option maxRecDepth 20000 in
set_option maxHeartbeats 1600000 in
theorem recv_bad (T : Nat) (now o f m t n : Int) (w : World) (hb : ¬ okA o f m t n) :
    Calls Try.prog 31 #[.pointer (some ⟨T, 0, none⟩), .int .i64 now, av o f m t n] w fun e w' => e = .returned (.tuple #[.slice none 0 0, .slice none 0 0]) ∧ Below w.heap.size w w' := by
  have H := fun w => valid_any o f m t n w
  rw [decide_eq_false hb] at H
  go_enter Try.func31, Try.ntmps31
  go_wp2_with (go_at_call 16; refine (H _).mono ?_; rintro e w' ⟨rfl, rfl⟩; clear H)
  go_ret2
  exact ⟨rfl, ((Below.refl _ w).alloc (Nat.le_refl _) _).alloc (by simp) _⟩

/-- the world behind the two boxes of the message -/
abbrev w2a (w : World) (o f m t n : Int) : World := (w.alloc (ao o f m t n)).alloc (ao o f m t n)

set_option maxRecDepth 20000 in
set_option maxHeartbeats 1600000 in
theorem recv_self {w : World} {base T mb : Nat} {own mac when : Int} {said : Bool} {R : List PE} (h : TabP w base T mb own mac said when R) (now o m t n : Int) (hb : okA o own m t n)
    {X : Value → World → Prop} (hd : ∀ w1, TabP w1 base T mb own mac said when R → Below w.heap.size w w1 → Calls Try.prog 56 #[.pointer (some ⟨T, 0, none⟩), .int .i64 now, .int .i64 m] w1 fun e w' => ∃ v, e = .returned v ∧ X v w') :
    Calls Try.prog 31 #[.pointer (some ⟨T, 0, none⟩), .int .i64 now, av o own m t n] w fun e w' => ∃ v, e = .returned (.tuple #[v, .slice none 0 0]) ∧ X v w' := by
  have H := fun w => valid_any o own m t n w
  rw [decide_eq_true hb] at H
  have hB : Below w.heap.size w (w2a w o own m t n).drew := (((Below.refl _ w).alloc (Nat.le_refl _) _).alloc (by simp) _).drew
  have hT : TabP (w2a w o own m t n).drew base T mb own mac said when R := h.kept fun k hk => hB.block k (h.lt k hk).2
  have hA : (w2a w o own m t n).drew.heap[w.heap.size]? = some (ao o own m t n) := blk_alloc (blk_new w _) _
  have a1 : (w2a w o own m t n).drew.cell? ⟨w.heap.size, 1, none⟩ = some (.int .i64 own) := (blk_cell (k := 1) hA rfl).1
  have a2 : (w2a w o own m t n).drew.cell? ⟨w.heap.size, 2, none⟩ = some (.int .i64 m) := (blk_cell (k := 2) hA rfl).1
  obtain ⟨x0, -⟩ := mb_of hT
  have a1' : (w2a w o own m t n).cell? ⟨w.heap.size, 1, none⟩ = some (.int .i64 own) := a1
  have x0' : (w2a w o own m t n).cell? ⟨T, 0, none⟩ = some (.int .i64 own) := x0
  have HH := hd _ hT hB
  clear hd hB hT hA
  go_enter Try.func31, Try.ntmps31
  go_wp2_with (go_at_call 16; refine (H _).mono ?_; rintro e w' ⟨rfl, rfl⟩; clear H)
  go_region
  go_wp2_with (go_at_call 56; refine HH.mono ?_; rintro e w' ⟨v, rfl, hX⟩; clear HH)
  go_ret2
  exact ⟨_, rfl, hX⟩

set_option maxRecDepth 20000 in
set_option maxHeartbeats 1600000 in
theorem recv_other {w : World} {base T mb : Nat} {own mac when : Int} {said : Bool} {R : List PE} (h : TabP w base T mb own mac said when R) (now o f m t n : Int) (hb : okA o f m t n) (hf : f ≠ own) (ht : t ≠ own) :
    Calls Try.prog 31 #[.pointer (some ⟨T, 0, none⟩), .int .i64 now, av o f m t n] w fun e w' => e = .returned (.tuple #[.slice none 0 0, .slice none 0 0]) ∧ Below w.heap.size w w' := by
  have H := fun w => valid_any o f m t n w
  rw [decide_eq_true hb] at H
  have hB : Below w.heap.size w (w2a w o f m t n).drew := (((Below.refl _ w).alloc (Nat.le_refl _) _).alloc (by simp) _).drew
  have hT : TabP (w2a w o f m t n).drew base T mb own mac said when R := h.kept fun k hk => hB.block k (h.lt k hk).2
  have hA : (w2a w o f m t n).drew.heap[w.heap.size]? = some (ao o f m t n) := blk_alloc (blk_new w _) _
  have a1 : (w2a w o f m t n).drew.cell? ⟨w.heap.size, 1, none⟩ = some (.int .i64 f) := (blk_cell (k := 1) hA rfl).1
  have a3 : (w2a w o f m t n).drew.cell? ⟨w.heap.size, 3, none⟩ = some (.int .i64 t) := (blk_cell (k := 3) hA rfl).1
  obtain ⟨x0, -⟩ := mb_of hT
  have a1' : (w2a w o f m t n).cell? ⟨w.heap.size, 1, none⟩ = some (.int .i64 f) := a1
  have x0' : (w2a w o f m t n).cell? ⟨T, 0, none⟩ = some (.int .i64 own) := x0
  have hf' : (f == own) = false := by simpa using hf
  have ht' : (t != own) = true := by simpa using ht
  clear hB hT hA hf ht
  go_enter Try.func31, Try.ntmps31
  go_wp2_with (go_at_call 16; refine (H _).mono ?_; rintro e w' ⟨rfl, rfl⟩; clear H)
  go_region
  go_wp2
  go_region
  go_wp2
  go_ret2
  exact ⟨rfl, ((((Below.refl _ w).alloc (Nat.le_refl _) _).alloc (by simp) _).drew).drew⟩

set_option maxRecDepth 20000 in
set_option maxHeartbeats 1600000 in
theorem recv_told {w : World} {base T mb : Nat} {own mac when : Int} {said : Bool} {R : List PE} (h : TabP w base T mb own mac said when R) (now f m n : Int) (hb : okA 2 f m own n) (hf : f ≠ own)
    {X : Value → World → Prop} (hd : ∀ w1, TabP w1 base T mb own mac said when R → Below w.heap.size w w1 → Calls Try.prog 57 #[.pointer (some ⟨T, 0, none⟩), .int .i64 now, .int .i64 f, .int .i64 m] w1 fun e w' => ∃ v, e = .returned v ∧ X v w') :
    Calls Try.prog 31 #[.pointer (some ⟨T, 0, none⟩), .int .i64 now, av 2 f m own n] w fun e w' => ∃ v, e = .returned (.tuple #[.slice none 0 0, v]) ∧ X v w' := by
  have H := fun w => valid_any 2 f m own n w
  rw [decide_eq_true hb] at H
  have hB : Below w.heap.size w (w2a w 2 f m own n).drew.drew := ((((Below.refl _ w).alloc (Nat.le_refl _) _).alloc (by simp) _).drew).drew
  have hT : TabP (w2a w 2 f m own n).drew.drew base T mb own mac said when R := h.kept fun k hk => hB.block k (h.lt k hk).2
  have hA : (w2a w 2 f m own n).drew.heap[w.heap.size]? = some (ao 2 f m own n) := blk_alloc (blk_new w _) _
  have a1 : (w2a w 2 f m own n).drew.cell? ⟨w.heap.size, 1, none⟩ = some (.int .i64 f) := (blk_cell (k := 1) hA rfl).1
  have a3 : (w2a w 2 f m own n).drew.cell? ⟨w.heap.size, 3, none⟩ = some (.int .i64 own) := (blk_cell (k := 3) hA rfl).1
  have a0 : (w2a w 2 f m own n).drew.drew.cell? ⟨w.heap.size, 0, none⟩ = some (.int .i64 2) := (blk_cell (k := 0) hA rfl).1
  have a2 : (w2a w 2 f m own n).drew.drew.cell? ⟨w.heap.size, 2, none⟩ = some (.int .i64 m) := (blk_cell (k := 2) hA rfl).1
  have a1d : (w2a w 2 f m own n).drew.drew.cell? ⟨w.heap.size, 1, none⟩ = some (.int .i64 f) := a1
  obtain ⟨x0, -⟩ := mb_of hT
  have x0d : (w2a w 2 f m own n).drew.cell? ⟨T, 0, none⟩ = some (.int .i64 own) := x0
  have a1' : (w2a w 2 f m own n).cell? ⟨w.heap.size, 1, none⟩ = some (.int .i64 f) := a1
  have x0' : (w2a w 2 f m own n).cell? ⟨T, 0, none⟩ = some (.int .i64 own) := x0
  have hf' : (f == own) = false := by simpa using hf
  have HH := hd _ hT hB
  clear hd hB hT hA hf
  go_enter Try.func31, Try.ntmps31
  go_wp2_with (go_at_call 16; refine (H _).mono ?_; rintro e w' ⟨rfl, rfl⟩; clear H)
  go_region
  go_wp2
  go_region
  go_wp2_with (go_at_call 57; refine HH.mono ?_; rintro e w' ⟨v, rfl, hX⟩; clear HH)
  go_ret2
  exact ⟨_, rfl, hX⟩
end Go.Proofs.Ytpkfjlbjahghgaa

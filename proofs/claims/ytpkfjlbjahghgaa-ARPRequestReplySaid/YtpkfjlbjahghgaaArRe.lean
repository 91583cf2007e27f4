/- Contracts of the reference's Encode of messages. -/
import Derived.Test.YtpkfjlbjahghgaaArMem
import Derived.Deep.RegionHeld3
namespace Go.Proofs.Ytpkfjlbjahghgaa
open Go.RowKit
set_option linter.unusedVariables false
attribute [local go_sem] Oper.semAt_some

/-- the message's box, as the calls leave it -/
abbrev Ba (W : World) (N : Nat) (o f m t n : Int) (w' : World) : Prop :=
  (w'.cell? ⟨N, 0, none⟩ = some (.int .i64 o) ∧ w'.cell? ⟨N, 1, none⟩ = some (.int .i64 f) ∧ w'.cell? ⟨N, 2, none⟩ = some (.int .i64 m) ∧ w'.cell? ⟨N, 3, none⟩ = some (.int .i64 t) ∧ w'.cell? ⟨N, 4, none⟩ = some (.int .i64 n)) ∧ Below W.heap.size W w'
theorem Ba.step {W w1 w2 : World} {N : Nat} {o f m t n : Int} (hb : Below w1.heap.size w1 w2) (h : Ba W N o f m t n w1) : Ba W N o f m t n w2 :=
  ⟨⟨(hb.cell (cell_lt h.1.1)).trans h.1.1, (hb.cell (cell_lt h.1.2.1)).trans h.1.2.1, (hb.cell (cell_lt h.1.2.2.1)).trans h.1.2.2.1, (hb.cell (cell_lt h.1.2.2.2.1)).trans h.1.2.2.2.1, (hb.cell (cell_lt h.1.2.2.2.2)).trans h.1.2.2.2.2⟩, h.2.trans (hb.mono h.2.size)⟩

theorem rencA_no (o f m t n : Int) (w : World) (h : ¬ okA o f m t n) :
    Calls Try.prog 15 #[av o f m t n] w fun e w' => e = .returned (.tuple #[.string ByteArray.empty, .int .i64 50]) ∧ Below w.heap.size w w' := by
  have hd : decide (okA o f m t n) = false := decide_eq_false h
  go_enter Try.func15, Try.ntmps15
  go_wp2_with fail
  refine (rvalidA_any _ _ _ _ _ _).mono ?_
  rintro e w1 ⟨rfl, rfl⟩
  rw [hd]
  go_wp2
  go_ret2
  exact ⟨rfl, ((Below.refl _ w).alloc (Nat.le_refl _) _).alloc (by simp) _⟩

set_option maxRecDepth 100000 in
set_option maxHeartbeats 4000000 in
theorem rencA_yes (o f m t n : Int) (w : World) (h : okA o f m t n) :
    Calls Try.prog 15 #[av o f m t n] w fun e w' => e = .returned (.tuple #[.string (encA o f m t n), .int .i64 0]) ∧ Below w.heap.size w w' := by
  have hd : decide (okA o f m t n) = true := decide_eq_true h
  have hE : encA o f m t n = (((beS 1 o ++ beS 4 f) ++ beS 2 m) ++ beS 4 t) ++ beS 2 n := rfl
  unfold okA okOne okMac at h
  obtain ⟨⟨f1, f2⟩, ⟨t1, t2⟩, ⟨m1, m2⟩, hon⟩ := h
  have ho1 : 0 ≤ o := by omega
  have ho2 : o ≤ 2 := by omega
  have hn1 : 0 ≤ n := by omega
  have hn2 : n ≤ 65534 := by omega
  clear hon
  have z1 := beS_size 1 o (by decide) (by decide)
  have z2 := beS_size 4 f (by decide) (by decide)
  have z3 := beS_size 2 m (by decide) (by decide)
  have z4 := beS_size 4 t (by decide) (by decide)
  have z5 := beS_size 2 n (by decide) (by decide)
  simp only [Int.reduceToNat] at z1 z2 z3 z4 z5
  have HE := Lib.hid hE
  clear hE
  go_enter Try.func15, Try.ntmps15
  go_wp2_with fail
  refine (rvalidA_any _ _ _ _ _ _).mono ?_
  rintro e w1 ⟨rfl, rfl⟩
  rw [hd]
  have hBa : Ba w w.heap.size o f m t n ((w.alloc (ao o f m t n)).alloc (ao o f m t n)).drew := by
    have h0 := blk_alloc (blk_new w (ao o f m t n)) (ao o f m t n)
    exact ⟨⟨(blk_cell (k := 0) h0 rfl).1, (blk_cell (k := 1) h0 rfl).1, (blk_cell (k := 2) h0 rfl).1, (blk_cell (k := 3) h0 rfl).1, (blk_cell (k := 4) h0 rfl).1⟩, (((Below.refl _ w).alloc (Nat.le_refl _) _).alloc (by simp) _).drew⟩
  have HBa := Lib.hid hBa
  clear hBa hd
  go_wp2
  go_region_held3 (fun w' => (w'.cell? ⟨w.heap.size, 0, none⟩ = some (.int .i64 o) ∧ w'.cell? ⟨w.heap.size, 1, none⟩ = some (.int .i64 f) ∧ w'.cell? ⟨w.heap.size, 2, none⟩ = some (.int .i64 m) ∧ w'.cell? ⟨w.heap.size, 3, none⟩ = some (.int .i64 t) ∧ w'.cell? ⟨w.heap.size, 4, none⟩ = some (.int .i64 n)) ∧ Below w.heap.size w w')
    (first | exact HBa.out | exact Ba.step hb (by assumption))
    ((go_at_call 39; refine (rputA_any _ _ _ (by decide) (by decide) (by omega) (by simp; omega)).mono ?_; rintro e w' ⟨rfl, hb⟩))
  obtain ⟨-, hBw⟩ : Ba w w.heap.size o f m t n w' := by assumption
  rw [← HE.out]
  go_wp2
  go_ret2
  exact ⟨rfl, hBw⟩
end Go.Proofs.Ytpkfjlbjahghgaa

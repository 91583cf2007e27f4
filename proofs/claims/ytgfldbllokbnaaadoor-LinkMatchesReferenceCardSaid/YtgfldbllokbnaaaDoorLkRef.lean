/- Contracts of the reference's Encode and its helpers. -/
import Derived.Test.YtgfldbllokbnaaaDoorLkMath
import Derived.Test.YtgfldbllokbnaaaDoorLkEnc
import Derived.Test.YtgfldbllokbnaaaDoorRefCrc
import Derived.Deep.RegionHeld3
namespace Go.Proofs.YtgfldbllokbnaaaDoor
open Go.RowKit
set_option linter.unusedVariables false
attribute [local go_sem] Oper.semAt_some

theorem rput_any (n b : Int) (w : World) (hb1 : 1 ≤ b) (hb2 : b ≤ 4) (h1 : 0 ≤ n) (h2 : n < 256 ^ b.toNat) :
    Calls Tryd.prog 25 #[.int .i64 n, .int .i64 b] w fun e w' => e = .returned (.string (beS b n)) ∧ Below w.heap.size w w' := by
  have H := refPut_R n b
  unfold putS putE at H
  rw [if_pos ⟨hb1, hb2, h1, h2⟩, if_pos ⟨hb1, hb2, h1, h2⟩] at H
  go_enter Tryd.func25, Tryd.ntmps25
  go_wp2_with fail
  refine (H _).mono ?_
  rintro e w1 ⟨rfl, hb⟩
  clear H
  go_wp2
  go_ret
  exact ⟨rfl, hb⟩

theorem rget_any (s : ByteArray) (k b : Nat) (w : World) (hb1 : 1 ≤ b) (hb2 : b ≤ 4) (hk : k + b ≤ s.size) (hs : s.size ≤ maxLen) :
    Calls Tryd.prog 29 #[.string s, .int .i64 (k : Int), .int .i64 (b : Int)] w fun e w' => e = .returned (.int .i64 (rdV s k b)) ∧ w = w' := by
  have H := fun w => refGet_R s (k : Int) (b : Int) w hs
  unfold getV getE at H
  simp only [if_pos (show 1 ≤ (b : Int) ∧ (b : Int) ≤ 4 ∧ 0 ≤ (k : Int) ∧ (k : Int) + (b : Int) ≤ (s.size : Int) by omega)] at H
  go_enter Tryd.func29, Tryd.ntmps29
  go_wp2_with fail
  refine (H _).mono ?_
  rintro e w1 ⟨rfl, rfl⟩
  clear H
  go_wp2
  go_ret
  exact ⟨rfl, rfl⟩

/-- the frame's box, as the calls leave it -/
abbrev Bx (W : World) (N : Nat) (a b c : Int) (s : ByteArray) (w' : World) : Prop :=
  (w'.cell? ⟨N, 0, none⟩ = some (.int .i64 a) ∧ w'.cell? ⟨N, 1, none⟩ = some (.int .i64 b) ∧ w'.cell? ⟨N, 2, none⟩ = some (.int .i64 c) ∧ w'.cell? ⟨N, 3, none⟩ = some (.string s)) ∧ Below W.heap.size W w'
theorem Bx.step {W w1 w2 : World} {N : Nat} {a b c : Int} {s : ByteArray} (hb : Below w1.heap.size w1 w2) (h : Bx W N a b c s w1) : Bx W N a b c s w2 :=
  ⟨⟨(hb.cell (cell_lt h.1.1)).trans h.1.1, (hb.cell (cell_lt h.1.2.1)).trans h.1.2.1, (hb.cell (cell_lt h.1.2.2.1)).trans h.1.2.2.1, (hb.cell (cell_lt h.1.2.2.2)).trans h.1.2.2.2⟩, h.2.trans (hb.mono h.2.size)⟩

theorem refEncode_no (a b c : Int) (s : ByteArray) (w : World) (h : ¬ okF a b c s.size) :
    Calls Tryd.prog 12 #[fv a b c s] w fun e w' => e = .returned (.tuple #[.string ByteArray.empty, .int .i64 40]) ∧ Below w.heap.size w w' := by
  have hd : decide (okF a b c s.size) = false := decide_eq_false h
  go_enter Tryd.func12, Tryd.ntmps12
  go_wp2_with fail
  refine (refValid_any _ _ _ _ _).mono ?_
  rintro e w1 ⟨rfl, rfl⟩
  rw [hd]
  go_wp2
  go_ret2
  exact ⟨rfl, ((Below.refl _ w).alloc (Nat.le_refl _) _).alloc (by simp) _⟩

set_option maxRecDepth 100000 in
set_option maxHeartbeats 4000000 in
theorem refEncode_yes (a b c : Int) (s : ByteArray) (w : World) (h : okF a b c s.size) :
    Calls Tryd.prog 12 #[fv a b c s] w fun e w' => e = .returned (.tuple #[.string (encS a b c s), .int .i64 0]) ∧ Below w.heap.size w w' := by
  have hd : decide (okF a b c s.size) = true := decide_eq_true h
  have hb0 := body_size a b c s
  have hE : encS a b c s = bodyS a b c s ++ beS 4 ((crcN (bodyS a b c s).data.toList : Nat) : Int) := rfl
  have hB : bodyS a b c s = (((beS 2 a ++ beS 2 b) ++ beS 1 c) ++ beS 2 (s.size : Int)) ++ s := rfl
  have hcl := crcN_lt (bodyS a b c s).data.toList
  obtain ⟨a1, a2, b1, b2, hc, hn⟩ := h
  have z1 := beS_size 2 a (by decide) (by decide)
  have z2 := beS_size 2 b (by decide) (by decide)
  have z3 := beS_size 1 c (by decide) (by decide)
  have z4 := beS_size 2 (s.size : Int) (by decide) (by decide)
  have z5 := beS_size 4 ((crcN (bodyS a b c s).data.toList : Nat) : Int) (by decide) (by decide)
  simp only [Int.reduceToNat] at z1 z2 z3 z4 z5
  have z6 : ¬ 9223372036854775807 < 7 + s.size := by omega
  have HE := Lib.hid hE
  have HB := Lib.hid hB
  have Hb0 := Lib.hid hb0
  clear hE hB hb0
  go_enter Tryd.func12, Tryd.ntmps12
  go_wp2_with fail
  refine (refValid_any _ _ _ _ _).mono ?_
  rintro e w1 ⟨rfl, rfl⟩
  rw [hd]
  have hBx : Bx w w.heap.size a b c s ((w.alloc (fo a b c s)).alloc (fo a b c s)).drew := by
    have h0 := blk_alloc (blk_new w (fo a b c s)) (fo a b c s)
    exact ⟨⟨(blk_cell (k := 0) h0 rfl).1, (blk_cell (k := 1) h0 rfl).1, (blk_cell (k := 2) h0 rfl).1, (blk_cell (k := 3) h0 rfl).1⟩, (((Below.refl _ w).alloc (Nat.le_refl _) _).alloc (by simp) _).drew⟩
  have HBx := Lib.hid hBx
  clear hBx hd
  have hs0 : (0 : Int) ≤ (s.size : Int) := by omega
  have hs1 : (s.size : Int) ≤ 1024 := by omega
  go_wp2
  go_region_held3 (fun w' => (w'.cell? ⟨w.heap.size, 0, none⟩ = some (.int .i64 a) ∧ w'.cell? ⟨w.heap.size, 1, none⟩ = some (.int .i64 b) ∧ w'.cell? ⟨w.heap.size, 2, none⟩ = some (.int .i64 c) ∧ w'.cell? ⟨w.heap.size, 3, none⟩ = some (.string s)) ∧ Below w.heap.size w w')
    (first | exact HBx.out | exact Bx.step hb (by assumption))
    ((go_at_call 25; refine (rput_any _ _ _ (by decide) (by decide) (by omega) (by simp; omega)).mono ?_; rintro e w' ⟨rfl, hb⟩))
  obtain ⟨-, hBw⟩ : Bx w w.heap.size a b c s w' := by assumption
  rw [← HB.out]
  have hYs : (bodyS a b c s).size ≤ 1031 := by have := Hb0.out; omega
  have z7 : ¬ 9223372036854775807 < (bodyS a b c s).size + 4 := by omega
  revert HE hYs z5 z7 hcl
  generalize bodyS a b c s = Y
  intro hcl z5 HE hYs z7
  clear HB Hb0 z1 z2 z3 z4 z6
  go_wp2_with fail
  refine (refCrc_any Y (by unfold maxLen; omega) _).mono ?_
  rintro e w3 ⟨rfl, rfl⟩
  revert HE z5 hcl
  generalize crcN Y.data.toList = K
  intro hcl z5 HE
  go_wp2_with fail
  refine (rput_any (K : Int) 4 _ (by decide) (by decide) (by omega) (by simp; omega)).mono ?_
  rintro e w4 ⟨rfl, hb4⟩
  have hB4 := hBw.trans (hb4.mono hBw.size)
  revert z5 HE
  generalize beS 4 (K : Int) = M
  intro z5 HE
  go_wp2
  go_ret2
  exact ⟨by rw [HE.out]; rfl, hB4⟩
end Go.Proofs.YtgfldbllokbnaaaDoor

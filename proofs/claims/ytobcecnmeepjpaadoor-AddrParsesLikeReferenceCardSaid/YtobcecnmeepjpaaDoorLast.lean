/- Contracts of Last, pick and NetOf. -/
import Derived.Test.YtobcecnmeepjpaaDoorCont
import Derived.Handy
namespace Go.Proofs.YtobcecnmeepjpaaDoor
open Go.RowKit
set_option linter.unusedVariables false

theorem keep2n (w : World) (a b : Value) (t : TypeId) :
    Below w.heap.size w (w.alloc (.cells #[a, b] t)) ∧ (w.alloc (.cells #[a, b] t)).cell? ⟨w.heap.size, 0, none⟩ = some a ∧ (w.alloc (.cells #[a, b] t)).cell? ⟨w.heap.size, 1, none⟩ = some b :=
  ⟨(Below.refl _ _).alloc (Nat.le_refl _) _, by simp, by simp⟩
theorem keep2d {w W : World} {a b : Value} (h : Below w.heap.size w W ∧ W.cell? ⟨w.heap.size, 0, none⟩ = some a ∧ W.cell? ⟨w.heap.size, 1, none⟩ = some b) :
    Below w.heap.size w W.drew ∧ W.drew.cell? ⟨w.heap.size, 0, none⟩ = some a ∧ W.drew.cell? ⟨w.heap.size, 1, none⟩ = some b := ⟨h.1.drew, h.2.1, h.2.2⟩

def lastZ (a b : Int) : Int := if vpZ a b then a + (szZ b - 1) else 0
theorem all_mod (b : Int) (l : 0 ≤ b) (u : b ≤ 32) : 4294967295 % szZ b = szZ b - 1 :=
  cases33 (P := fun b => 4294967295 % szZ b = szZ b - 1) (by decide +kernel) b l u

theorem last_in (a b : Int) (w : World) (la : -9223372036854775808 ≤ a) (ua : a ≤ 9223372036854775807) (lb : -9223372036854775808 ≤ b) (ub : b ≤ 9223372036854775807) (h : vpZ a b = true) :
    Calls Tryd.prog 22 #[.agg #[.int .i64 a, .int .i64 b]] w fun e w' => e = .returned (.int .i64 (a + (szZ b - 1))) ∧ Below w.heap.size w w' := by
  obtain ⟨h1, h2, h3, h4⟩ := vpZ_bd h
  have V := Lib.hid (vprefix_any a b · la ua lb ub)
  rw [h] at V
  have Hb := Lib.hid (hb_any b · h3 (by omega))
  have Hc := Lib.hid (cl_any 4294967295 b · · h3 h4 (by decide) (by decide))
  rw [all_mod b h3 h4] at Hc
  have hs := sz_bd b h3 h4
  go_enter Tryd.func22, Tryd.ntmps22
  go_wp2_with fail
  refine (V.out _).mono ?_
  rintro e w' ⟨rfl, hb⟩
  have hk := keep2d (keep2 (keep2n w _ _ _) hb)
  go_wp2_with fail
  refine wp_region_noPanic ?_
  refine wp_region_held_drew (S := fun w' => Below w.heap.size w w' ∧ w'.cell? ⟨w.heap.size, 0, none⟩ = some (.int .i64 a) ∧ w'.cell? ⟨w.heap.size, 1, none⟩ = some (.int .i64 b)) (by kernel_rfl) (hk) (fun hHeld => ?_)
  first
    | (refine wpAnyH_take (i := 0) (oi := ⟨some 6, _, _, _, _, _⟩) (v := ?v0) rfl (by kernel_rfl) (by kernel_rfl) (by kernel_rfl) (fun _ _ _ h => h) (Or.inl ⟨by rfl, ?hy0⟩) hHeld ?rr0
       case hy0 => (intro w hSw; (try dsimp only at hSw); go_simp; try with_reducible rfl))
    | (refine wpAnyH_take (i := 0) (oi := ⟨some 6, _, _, _, _, _⟩) (v := undef) rfl (by kernel_rfl) (by kernel_rfl) (by kernel_rfl) (fun _ _ _ h => h) (Or.inr ⟨by rfl, rfl⟩) hHeld ?rr0)
  try simp only [Act.put, List.setIfInBounds_toArray, List.set_cons_zero, List.set_cons_succ]
  first
    | (refine wpAnyH_take (i := 1) (oi := ⟨some 7, _, _, _, _, _⟩) (v := ?v1) rfl (by kernel_rfl) (by kernel_rfl) (by kernel_rfl) (fun _ _ _ h => h) (Or.inl ⟨by rfl, ?hy1⟩) hHeld ?rr1
       case hy1 => (intro w hSw; (try dsimp only at hSw); go_simp; try with_reducible rfl))
    | (refine wpAnyH_take (i := 1) (oi := ⟨some 7, _, _, _, _, _⟩) (v := undef) rfl (by kernel_rfl) (by kernel_rfl) (by kernel_rfl) (fun _ _ _ h => h) (Or.inr ⟨by rfl, rfl⟩) hHeld ?rr1)
  try simp only [Act.put, List.setIfInBounds_toArray, List.set_cons_zero, List.set_cons_succ]
  first
    | (refine wpAnyH_take (i := 2) (oi := ⟨some 8, _, _, _, _, _⟩) (v := ?v2) rfl (by kernel_rfl) (by kernel_rfl) (by kernel_rfl) (fun _ _ _ h => h) (Or.inl ⟨by rfl, ?hy2⟩) hHeld ?rr2
       case hy2 => (intro w hSw; (try dsimp only at hSw); go_simp; try with_reducible rfl))
    | (refine wpAnyH_take (i := 2) (oi := ⟨some 8, _, _, _, _, _⟩) (v := undef) rfl (by kernel_rfl) (by kernel_rfl) (by kernel_rfl) (fun _ _ _ h => h) (Or.inr ⟨by rfl, rfl⟩) hHeld ?rr2)
  try simp only [Act.put, List.setIfInBounds_toArray, List.set_cons_zero, List.set_cons_succ]
  first
    | (refine wpAnyH_take (i := 3) (oi := ⟨some 9, _, _, _, _, _⟩) (v := ?v3) rfl (by kernel_rfl) (by kernel_rfl) (by kernel_rfl) (fun _ _ _ h => h) (Or.inl ⟨by rfl, ?hy3⟩) hHeld ?rr3
       case hy3 => (intro w hSw; (try dsimp only at hSw); go_simp; try with_reducible rfl))
    | (refine wpAnyH_take (i := 3) (oi := ⟨some 9, _, _, _, _, _⟩) (v := undef) rfl (by kernel_rfl) (by kernel_rfl) (by kernel_rfl) (fun _ _ _ h => h) (Or.inr ⟨by rfl, rfl⟩) hHeld ?rr3)
  try simp only [Act.put, List.setIfInBounds_toArray, List.set_cons_zero, List.set_cons_succ]
  refine wpAnyH_ready (rs := [4]) (by kernel_rfl) (by simp) ?_
  refine AllReadyH.cons (o := ⟨some 10, _, _, _, _, _⟩) rfl (fun K hK => ?_) AllReadyH.nil
  go_simp
  (go_at_call 40; refine (Hb.out _).mono ?_; rintro e w2 ⟨rfl, rfl⟩)
  refine hK.out _ _ (keep2a hHeld) (fun hHeld2 => ?_)
  clear hK K hHeld
  have hHeld := hHeld2
  clear hHeld2
  try simp only [Act.put, List.setIfInBounds_toArray, List.set_cons_zero, List.set_cons_succ]
  refine wpAnyH_ready (rs := [5]) (by kernel_rfl) (by simp) ?_
  refine AllReadyH.cons (o := ⟨some 11, _, _, _, _, _⟩) rfl (fun K hK => ?_) AllReadyH.nil
  go_simp
  (go_at_call 52; refine (Hc.out _ _ (by simp)).mono ?_; rintro e w2 ⟨rfl, rfl⟩)
  refine hK.out _ _ (hHeld) (fun hHeld2 => ?_)
  clear hK K hHeld
  have hHeld := hHeld2
  clear hHeld2
  try simp only [Act.put, List.setIfInBounds_toArray, List.set_cons_zero, List.set_cons_succ]
  first
    | (refine wpAnyH_take (i := 6) (oi := ⟨some 12, _, _, _, _, _⟩) (v := ?v6) rfl (by kernel_rfl) (by kernel_rfl) (by kernel_rfl) (fun _ _ _ h => h) (Or.inl ⟨by rfl, ?hy6⟩) hHeld ?rr6
       case hy6 => (intro w hSw; (try dsimp only at hSw); go_simp; try with_reducible rfl))
    | (refine wpAnyH_take (i := 6) (oi := ⟨some 12, _, _, _, _, _⟩) (v := undef) rfl (by kernel_rfl) (by kernel_rfl) (by kernel_rfl) (fun _ _ _ h => h) (Or.inr ⟨by rfl, rfl⟩) hHeld ?rr6)
  try simp only [Act.put, List.setIfInBounds_toArray, List.set_cons_zero, List.set_cons_succ]
  first
    | (refine wpAnyH_take (i := 7) (oi := ⟨some 2, _, _, _, _, _⟩) (v := ?v7) rfl (by kernel_rfl) (by kernel_rfl) (by kernel_rfl) (fun _ _ _ h => h) (Or.inl ⟨by rfl, ?hy7⟩) hHeld ?rr7
       case hy7 => (intro w hSw; (try dsimp only at hSw); go_simp; try with_reducible rfl))
    | (refine wpAnyH_take (i := 7) (oi := ⟨some 2, _, _, _, _, _⟩) (v := undef) rfl (by kernel_rfl) (by kernel_rfl) (by kernel_rfl) (fun _ _ _ h => h) (Or.inr ⟨by rfl, rfl⟩) hHeld ?rr7)
  try simp only [Act.put, List.setIfInBounds_toArray, List.set_cons_zero, List.set_cons_succ]
  refine wpAnyH_done (by kernel_rfl) ?_ _
  refine NoPanic.normal ?_
  go_wp2
  go_ret
  exact ⟨ret_int (wrap_id (by omega) (by omega)), hHeld.1⟩

theorem last_out (a b : Int) (w : World) (la : -9223372036854775808 ≤ a) (ua : a ≤ 9223372036854775807) (lb : -9223372036854775808 ≤ b) (ub : b ≤ 9223372036854775807) (h : vpZ a b = false) :
    Calls Tryd.prog 22 #[.agg #[.int .i64 a, .int .i64 b]] w fun e w' => e = .returned (.int .i64 0) ∧ Below w.heap.size w w' := by
  have V := Lib.hid (vprefix_any a b · la ua lb ub)
  rw [h] at V
  go_enter Tryd.func22, Tryd.ntmps22
  go_wp2_with fail
  refine (V.out _).mono ?_
  rintro e w' ⟨rfl, hb⟩
  have hk := (keep2 (keep2n w _ _ _) hb)
  go_wp2_with fail
  go_ret
  exact ⟨rfl, hk.1⟩

theorem last_any (a b : Int) (w : World) (la : -9223372036854775808 ≤ a) (ua : a ≤ 9223372036854775807) (lb : -9223372036854775808 ≤ b) (ub : b ≤ 9223372036854775807) :
    Calls Tryd.prog 22 #[.agg #[.int .i64 a, .int .i64 b]] w fun e w' => e = .returned (.int .i64 (lastZ a b)) ∧ Below w.heap.size w w' := by
  unfold lastZ
  cases h : vpZ a b
  · exact last_out a b w la ua lb ub h
  · exact last_in a b w la ua lb ub h

/-- what pick gives -/
def pickQ (c n : Int) : Int := (if c < 0 then -(c + 1) else c) % n
theorem pickQ_neg {c n : Int} (h : c < 0) : pickQ c n = (-(c + 1)) % n := by rw [pickQ, if_pos h]
theorem pickQ_pos {c n : Int} (h : 0 ≤ c) : pickQ c n = c % n := by rw [pickQ, if_neg (by omega)]
theorem pickQ_bd (c n : Int) (h : 1 ≤ n) : 0 ≤ pickQ c n ∧ pickQ c n < n := by
  unfold pickQ; exact ⟨Int.emod_nonneg _ (by omega), Int.emod_lt_of_pos _ (by omega)⟩
theorem pickQ_any (c n : Int) (w : World) (h1 : -9223372036854775808 ≤ c) (h2 : c ≤ 9223372036854775807) (hn : 1 ≤ n) (hn2 : n ≤ 9223372036854775807) :
    Calls Tryd.prog 11 #[.int .i64 c, .int .i64 n] w fun e w' => e = .returned (.int .i64 (pickQ c n)) ∧ w = w' := by
  by_cases hc : c < 0
  · go_enter Tryd.func11, Tryd.ntmps11
    go_wp2
    go_ret
    exact ⟨ret_int (by rw [pickQ_neg hc, ← Int.neg_tmod, Int.tmod_eq_emod_of_nonneg (by omega)]), rfl⟩
  · have hc' : 0 ≤ c := by omega
    go_enter Tryd.func11, Tryd.ntmps11
    go_wp2
    go_ret
    exact ⟨ret_int (by rw [pickQ_pos hc']), rfl⟩
def netB (b : Int) : Int := pickQ b 33
def netA (a b : Int) : Int := pickQ a 4294967296 - pickQ a 4294967296 % szZ (netB b)
def pw (m : Nat) : Int := ((2 ^ m : Nat) : Int)
theorem pw_succ (m : Nat) : 2 * pw m = pw (m + 1) := by unfold pw; rw [Nat.pow_succ]; omega
theorem pw_bd (m : Nat) (h : m ≤ 32) : 1 ≤ pw m ∧ pw m ≤ 4294967296 :=
  ⟨by unfold pw; have := Nat.pos_of_ne_zero (n := 2 ^ m) (by simp); omega, by unfold pw; have := Nat.pow_le_pow_right (n := 2) (by omega) h; omega⟩
theorem pw_sz (b : Int) : pw (32 - b.toNat) = szZ b := rfl

set_option maxHeartbeats 1600000 in
theorem net_any (a b : Int) (w : World) (la : -9223372036854775808 ≤ a) (ua : a ≤ 9223372036854775807) (lb : -9223372036854775808 ≤ b) (ub : b ≤ 9223372036854775807) :
    Calls Tryd.prog 12 #[.int .i64 a, .int .i64 b] w fun e w' => e = .returned (.agg #[.int .i64 (netA a b), .int .i64 (netB b)]) ∧ Below w.heap.size w w' := by
  unfold netA netB
  have hp := pickQ_bd b 33 (by decide)
  have P := Lib.hid (pickQ_any b 33 · lb ub (by decide) (by decide))
  obtain ⟨k0, hk⟩ : ∃ k, pickQ b 33 = k := ⟨_, rfl⟩
  rw [hk] at hp P ⊢
  obtain ⟨k, rfl⟩ := Int.eq_ofNat_of_zero_le hp.1
  have hx := pickQ_bd a 4294967296 (by decide)
  have X := Lib.hid (pickQ_any a 4294967296 · la ua (by decide) (by decide))
  obtain ⟨x, hxe⟩ : ∃ x, pickQ a 4294967296 = x := ⟨_, rfl⟩
  rw [hxe] at hx X ⊢
  clear hxe hk
  go_enter Tryd.func12, Tryd.ntmps12
  go_wp2_with fail
  refine (P.out _).mono ?_
  rintro e w' ⟨rfl, rfl⟩
  go_wp2_with fail
  go_loop [6, 7] (fun n i => ∃ (j : Nat) (v : Int), k ≤ j ∧ j ≤ 32 ∧ Hid (pw (j - k) = v) ∧ n = .int .i64 v ∧ i = .int .i64 j) (fun _ i => 32 - (intOf i).toNat)
  case atStart => exact ⟨k, 1, by omega, by omega, by rw [Nat.sub_self]; exact Lib.hid rfl, rfl, rfl⟩
  case round =>
    obtain ⟨j, v, hj1, hj2, Hv, rfl, rfl⟩ := hrel
    have hb := pw_bd (j - k) (by omega)
    rw [Hv.out] at hb
    by_cases h : j < 32
    · go_wp2_with fail
      go_round
      case rel => exact ⟨j + 1, 2 * v, by omega, by omega, Lib.hid (by rw [show j + 1 - k = j - k + 1 by omega, ← pw_succ, Hv.out]), by go_num, by go_num⟩
      case measure => simp [intOf]; omega
    · obtain rfl : j = 32 := by omega
      have hz := Hv.out
      have hz2 : szZ (k : Int) = v := by rw [← hz]; rfl
      have Hz := Lib.hid hz2
      have hm := Int.emod_nonneg x (b := v) (by omega)
      have hm2 := Int.emod_lt_of_pos x (b := v) (by omega)
      clear hz hz2
      go_wp2_with fail
      refine (X.out _).mono ?_
      rintro e w' ⟨rfl, rfl⟩
      go_wp2_with fail
      go_returns
      refine ⟨?_, ?_⟩
      · rw [Hz.out]
      · exact (Below.refl _ _).alloc (Nat.le_refl _) _
end Go.Proofs.YtobcecnmeepjpaaDoor

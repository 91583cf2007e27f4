/- The walk of AddrPrefixHalves. -/
import Derived.Test.YtobcecnmeepjpaaDoorDom
namespace Go.Proofs.YtobcecnmeepjpaaDoor
open Go.RowKit
set_option linter.unusedVariables false

/-- the halves of a prefix that has less than 32 bits -/
theorem half_sz (B : Int) (l : 0 ≤ B) (u : B ≤ 31) : szZ B = 2 * szZ (B + 1) ∧ 1 ≤ szZ (B + 1) := by
  have h : ∀ n : Nat, n < 32 → szZ (n : Int) = 2 * szZ ((n : Int) + 1) ∧ 1 ≤ szZ ((n : Int) + 1) := by decide +kernel
  have := h B.toNat (by omega)
  rwa [Int.toNat_of_nonneg l] at this
theorem half_low {A B : Int} (h : vpZ A B = true) (u : B ≤ 31) : vpZ A (B + 1) = true := by
  obtain ⟨h1, h2, h3, h4⟩ := vpZ_bd h
  obtain ⟨e, p⟩ := half_sz B h3 u
  rw [vpZ_in h1 h2 h3 h4] at h
  obtain ⟨q, hq⟩ := mul_of_mod (S := szZ B) (by omega) (by simpa using h)
  rw [vpZ_in h1 h2 (by omega) (by omega)]
  have : A % szZ (B + 1) = 0 := by
    rw [hq, e, Int.mul_comm 2, Int.mul_assoc]
    exact Int.mul_emod_right _ _
  simp [this]
theorem half_high {A B : Int} (h : vpZ A B = true) (u : B ≤ 31) : vpZ (A + szZ (B + 1)) (B + 1) = true := by
  have hl := last_bd h
  obtain ⟨h1, h2, h3, h4⟩ := vpZ_bd h
  obtain ⟨e, p⟩ := half_sz B h3 u
  rw [vpZ_in h1 h2 h3 h4] at h
  obtain ⟨q, hq⟩ := mul_of_mod (S := szZ B) (by omega) (by simpa using h)
  rw [vpZ_in (by omega) (by omega) (by omega) (by omega)]
  have : (A + szZ (B + 1)) % szZ (B + 1) = 0 := by
    rw [Int.add_emod_right, hq, e, Int.mul_comm 2, Int.mul_assoc]
    exact Int.mul_emod_right _ _
  simp [this]

theorem keep6 {w W w' : World} {N P Q : Nat} {a b c d e f : Value} (h : Below w.heap.size w W ∧ W.cell? ⟨N, 0, none⟩ = some a ∧ W.cell? ⟨N, 1, none⟩ = some b ∧ W.cell? ⟨P, 0, none⟩ = some c ∧ W.cell? ⟨P, 1, none⟩ = some d ∧ W.cell? ⟨Q, 0, none⟩ = some e ∧ W.cell? ⟨Q, 1, none⟩ = some f) (hb : Below W.heap.size W w') :
    Below w.heap.size w w' ∧ w'.cell? ⟨N, 0, none⟩ = some a ∧ w'.cell? ⟨N, 1, none⟩ = some b ∧ w'.cell? ⟨P, 0, none⟩ = some c ∧ w'.cell? ⟨P, 1, none⟩ = some d ∧ w'.cell? ⟨Q, 0, none⟩ = some e ∧ w'.cell? ⟨Q, 1, none⟩ = some f := by
  obtain ⟨h0, h1, h2, h3, h4, h5, h6⟩ := h
  exact ⟨h0.trans (hb.mono h0.size), (hb.cell (World.block_lt_of_cell? _ _ h1)).trans h1, (hb.cell (World.block_lt_of_cell? _ _ h2)).trans h2, (hb.cell (World.block_lt_of_cell? _ _ h3)).trans h3, (hb.cell (World.block_lt_of_cell? _ _ h4)).trans h4, (hb.cell (World.block_lt_of_cell? _ _ h5)).trans h5, (hb.cell (World.block_lt_of_cell? _ _ h6)).trans h6⟩

set_option maxRecDepth 20000 in
set_option maxHeartbeats 8000000 in
theorem half_go (na nb a : Int) (w : World) (lna : -9223372036854775808 ≤ na) (una : na ≤ 9223372036854775807) (lnb : -9223372036854775808 ≤ nb) (unb : nb ≤ 9223372036854775807) (la : -9223372036854775808 ≤ a) (ua : a ≤ 9223372036854775807) (E : Env w) (hB : netB nb ≤ 31) :
    Calls Tryd.prog 8 #[.agg #[.int .i64 na, .int .i64 nb], .int .i64 a] w fun e w' => e = .returned (.bool true) ∧ Below w.heap.size w w' := by
  obtain ⟨A, B, -, hBe, hv, NE⟩ := net_dom na nb lna una lnb unb
  rw [hBe] at hB
  have hl := last_bd hv
  obtain ⟨e, p⟩ := half_sz B hl.2.2.2.1 hB
  have hlo := half_low hv hB
  have hhi := half_high hv hB
  obtain ⟨y, -, hy, PN⟩ := pick_dom a (szZ B) la ua (by omega) (by omega)
  obtain ⟨L, hL⟩ : ∃ L, A + (szZ B - 1) = L := ⟨_, rfl⟩
  obtain ⟨M, hM⟩ : ∃ M, A + szZ (B + 1) = M := ⟨_, rfl⟩
  rw [hM] at hhi
  have LA : ∀ w, Hid _ := last_yes hv
  rw [hL] at LA
  rw [show szZ B = L - A + 1 by omega] at PN
  have V1 := vp_yes hlo
  have V2 := vp_yes hhi
  have L1 := last_yes hlo
  rw [show A + (szZ (B + 1) - 1) = M - 1 by omega] at L1
  have L2 := last_yes hhi
  rw [show M + (szZ (B + 1) - 1) = L by omega] at L2
  have CM := cont_yes hv (z := A + y) (by omega) (by omega)
  have C1Y := fun h => cont_yes hlo (z := A + y) (by omega) h
  rw [show A + (szZ (B + 1) - 1) = M - 1 by omega] at C1Y
  have C1N := fun h => cont_not hlo (z := A + y) h (by omega) (by omega)
  rw [show A + (szZ (B + 1) - 1) = M - 1 by omega] at C1N
  have C2Y := fun h h2 => cont_yes hhi (z := A + y) h h2
  rw [show M + (szZ (B + 1) - 1) = L by omega] at C2Y
  have C2N := fun h => cont_not hhi (z := A + y) h (by omega) (by omega)
  rw [show M + (szZ (B + 1) - 1) = L by omega] at C2N
  have EX := fun w E => Lib.hid (ex_any w E)
  have HE := Lib.hid E
  have bd : 0 ≤ A ∧ A < M ∧ M ≤ L ∧ L ≤ 4294967295 ∧ A + y ≤ L ∧ 0 ≤ y := by omega
  have eM : A + (L - A + 1) / 2 = M := by omega
  have hB0 := hl.2.2.2.1
  clear E hv hlo hhi hBe hl hM hL e p hy
  go_enter Tryd.func8, Tryd.ntmps8
  go_wp2_with fail
  have hb0 := (Below.refl w.heap.size w).alloc (Nat.le_refl _) (.cells #[.int .i64 na, .int .i64 nb] 23)
  have p0 : (w.alloc (.cells #[.int .i64 na, .int .i64 nb] 23)).cell? ⟨w.heap.size, 0, none⟩ = some (.int .i64 na) := by simp
  have p1 : (w.alloc (.cells #[.int .i64 na, .int .i64 nb] 23)).cell? ⟨w.heap.size, 1, none⟩ = some (.int .i64 nb) := by simp
  refine (EX _ (HE.out.stay hb0)).out.mono ?_
  rintro e w1 ⟨rfl, hb1⟩
  obtain ⟨h1, q0, q1⟩ := keepN ⟨hb0, p0, p1⟩ hb1
  clear hb0 p0 p1 hb1
  go_wp2_with fail
  refine (NE _).out.mono ?_
  rintro e w2 ⟨rfl, hb2⟩
  replace hb2 := h1.trans (hb2.mono h1.size)
  obtain ⟨h2, q0, q1⟩ := keepN0 hb2 (.int .i64 A) (.int .i64 B) 23
  clear h1 hb2
  obtain ⟨N, hN⟩ : ∃ N, w2.heap.size = N := ⟨_, rfl⟩
  rw [hN] at q0 q1
  have HN := Lib.hid hN
  clear hN
  go_wp2_with fail
  rw [HN.out]
  refine (LA _).out.mono ?_
  rintro e w3 ⟨rfl, hb3⟩
  obtain ⟨h3, q0, q1⟩ := keepN ⟨h2, q0, q1⟩ hb3
  clear h2 hb3
  have d32 : (B == 32) = false := by rw [beq_eq_false_iff_ne]; omega
  obtain ⟨h4, r0, r1⟩ := keepNa ⟨h3, q0, q1⟩ (.cells #[.int .i64 A, .int .i64 (B + 1)] 23)
  obtain ⟨h5, s0, s1⟩ := keepNa ⟨h4, r0, r1⟩ (.cells #[.int .i64 M, .int .i64 (B + 1)] 23)
  go_wp2_with fail
  -- region 11
  have e1 : IntKind.i64.wrap (L - A) = L - A := wrap_id (by omega) (by omega)
  have e2 : max (L - A) 0 = L - A := by omega
  have e3 : IntKind.i64.wrap (L - A + 1) = L - A + 1 := wrap_id (by omega) (by omega)
  have e4 : IntKind.i64.wrap (A + y) = A + y := wrap_id (by omega) (by omega)
  refine wp_region_noPanic ?_
  refine wp_region_held_drew (S := fun w' => Below w.heap.size w w' ∧ w'.cell? ⟨N, 0, none⟩ = some (.int .i64 A) ∧ w'.cell? ⟨N, 1, none⟩ = some (.int .i64 B)) (by kernel_rfl) (keepNd ⟨h5, s0, s1⟩) (fun hHeld => ?_)
  first
    | (refine wpAnyH_take (i := 0) (oi := ⟨some 52, _, _, _, _, _⟩) (v := ?va0) rfl (by kernel_rfl) (by kernel_rfl) (by kernel_rfl) (fun _ _ _ h => h) (Or.inl ⟨by rfl, ?hya0⟩) hHeld ?rra0
       case hya0 => (intro w hSw; (try dsimp only at hSw); go_simp; try with_reducible rfl))
    | (refine wpAnyH_take (i := 0) (oi := ⟨some 52, _, _, _, _, _⟩) (v := undef) rfl (by kernel_rfl) (by kernel_rfl) (by kernel_rfl) (fun _ _ _ h => h) (Or.inr ⟨by rfl, rfl⟩) hHeld ?rra0)
  try simp only [Act.put, List.setIfInBounds_toArray, List.set_cons_zero, List.set_cons_succ]
  try rw [e1]
  try rw [e2]
  try rw [e3]
  try rw [e4]
  first
    | (refine wpAnyH_take (i := 1) (oi := ⟨some 53, _, _, _, _, _⟩) (v := ?va1) rfl (by kernel_rfl) (by kernel_rfl) (by kernel_rfl) (fun _ _ _ h => h) (Or.inl ⟨by rfl, ?hya1⟩) hHeld ?rra1
       case hya1 => (intro w hSw; (try dsimp only at hSw); go_simp; try with_reducible rfl))
    | (refine wpAnyH_take (i := 1) (oi := ⟨some 53, _, _, _, _, _⟩) (v := undef) rfl (by kernel_rfl) (by kernel_rfl) (by kernel_rfl) (fun _ _ _ h => h) (Or.inr ⟨by rfl, rfl⟩) hHeld ?rra1)
  try simp only [Act.put, List.setIfInBounds_toArray, List.set_cons_zero, List.set_cons_succ]
  try rw [e1]
  try rw [e2]
  try rw [e3]
  try rw [e4]
  first
    | (refine wpAnyH_take (i := 2) (oi := ⟨some 54, _, _, _, _, _⟩) (v := ?va2) rfl (by kernel_rfl) (by kernel_rfl) (by kernel_rfl) (fun _ _ _ h => h) (Or.inl ⟨by rfl, ?hya2⟩) hHeld ?rra2
       case hya2 => (intro w hSw; (try dsimp only at hSw); go_simp; try with_reducible rfl))
    | (refine wpAnyH_take (i := 2) (oi := ⟨some 54, _, _, _, _, _⟩) (v := undef) rfl (by kernel_rfl) (by kernel_rfl) (by kernel_rfl) (fun _ _ _ h => h) (Or.inr ⟨by rfl, rfl⟩) hHeld ?rra2)
  try simp only [Act.put, List.setIfInBounds_toArray, List.set_cons_zero, List.set_cons_succ]
  try rw [e1]
  try rw [e2]
  try rw [e3]
  try rw [e4]
  first
    | (refine wpAnyH_take (i := 3) (oi := ⟨some 55, _, _, _, _, _⟩) (v := ?va3) rfl (by kernel_rfl) (by kernel_rfl) (by kernel_rfl) (fun _ _ _ h => h) (Or.inl ⟨by rfl, ?hya3⟩) hHeld ?rra3
       case hya3 => (intro w hSw; (try dsimp only at hSw); go_simp; try with_reducible rfl))
    | (refine wpAnyH_take (i := 3) (oi := ⟨some 55, _, _, _, _, _⟩) (v := undef) rfl (by kernel_rfl) (by kernel_rfl) (by kernel_rfl) (fun _ _ _ h => h) (Or.inr ⟨by rfl, rfl⟩) hHeld ?rra3)
  try simp only [Act.put, List.setIfInBounds_toArray, List.set_cons_zero, List.set_cons_succ]
  try rw [e1]
  try rw [e2]
  try rw [e3]
  try rw [e4]
  first
    | (refine wpAnyH_take (i := 4) (oi := ⟨some 56, _, _, _, _, _⟩) (v := ?va4) rfl (by kernel_rfl) (by kernel_rfl) (by kernel_rfl) (fun _ _ _ h => h) (Or.inl ⟨by rfl, ?hya4⟩) hHeld ?rra4
       case hya4 => (intro w hSw; (try dsimp only at hSw); go_simp; try with_reducible rfl))
    | (refine wpAnyH_take (i := 4) (oi := ⟨some 56, _, _, _, _, _⟩) (v := undef) rfl (by kernel_rfl) (by kernel_rfl) (by kernel_rfl) (fun _ _ _ h => h) (Or.inr ⟨by rfl, rfl⟩) hHeld ?rra4)
  try simp only [Act.put, List.setIfInBounds_toArray, List.set_cons_zero, List.set_cons_succ]
  try rw [e1]
  try rw [e2]
  try rw [e3]
  try rw [e4]
  first
    | (refine wpAnyH_take (i := 5) (oi := ⟨some 57, _, _, _, _, _⟩) (v := ?va5) rfl (by kernel_rfl) (by kernel_rfl) (by kernel_rfl) (fun _ _ _ h => h) (Or.inl ⟨by rfl, ?hya5⟩) hHeld ?rra5
       case hya5 => (intro w hSw; (try dsimp only at hSw); go_simp; try with_reducible rfl))
    | (refine wpAnyH_take (i := 5) (oi := ⟨some 57, _, _, _, _, _⟩) (v := undef) rfl (by kernel_rfl) (by kernel_rfl) (by kernel_rfl) (fun _ _ _ h => h) (Or.inr ⟨by rfl, rfl⟩) hHeld ?rra5)
  try simp only [Act.put, List.setIfInBounds_toArray, List.set_cons_zero, List.set_cons_succ]
  try rw [e1]
  try rw [e2]
  try rw [e3]
  try rw [e4]
  first
    | (refine wpAnyH_take (i := 6) (oi := ⟨some 58, _, _, _, _, _⟩) (v := ?va6) rfl (by kernel_rfl) (by kernel_rfl) (by kernel_rfl) (fun _ _ _ h => h) (Or.inl ⟨by rfl, ?hya6⟩) hHeld ?rra6
       case hya6 => (intro w hSw; (try dsimp only at hSw); go_simp; try with_reducible rfl))
    | (refine wpAnyH_take (i := 6) (oi := ⟨some 58, _, _, _, _, _⟩) (v := undef) rfl (by kernel_rfl) (by kernel_rfl) (by kernel_rfl) (fun _ _ _ h => h) (Or.inr ⟨by rfl, rfl⟩) hHeld ?rra6)
  try simp only [Act.put, List.setIfInBounds_toArray, List.set_cons_zero, List.set_cons_succ]
  try rw [e1]
  try rw [e2]
  try rw [e3]
  try rw [e4]
  refine wpAnyH_ready (rs := [7]) (by kernel_rfl) (by simp) ?_
  refine AllReadyH.cons (o := ⟨some 59, _, _, _, _, _⟩) rfl (fun K hK => ?_) AllReadyH.nil
  go_simp
  refine hK.out _ _ (hHeld) (fun hHeld2 => ?_)
  clear hK K hHeld
  have hHeld := hHeld2
  clear hHeld2
  try simp only [Act.put, List.setIfInBounds_toArray, List.set_cons_zero, List.set_cons_succ]
  try rw [e1]
  try rw [e2]
  try rw [e3]
  try rw [e4]
  first
    | (refine wpAnyH_take (i := 8) (oi := ⟨some 60, _, _, _, _, _⟩) (v := ?va8) rfl (by kernel_rfl) (by kernel_rfl) (by kernel_rfl) (fun _ _ _ h => h) (Or.inl ⟨by rfl, ?hya8⟩) hHeld ?rra8
       case hya8 => (intro w hSw; (try dsimp only at hSw); go_simp; try with_reducible rfl))
    | (refine wpAnyH_take (i := 8) (oi := ⟨some 60, _, _, _, _, _⟩) (v := undef) rfl (by kernel_rfl) (by kernel_rfl) (by kernel_rfl) (fun _ _ _ h => h) (Or.inr ⟨by rfl, rfl⟩) hHeld ?rra8)
  try simp only [Act.put, List.setIfInBounds_toArray, List.set_cons_zero, List.set_cons_succ]
  try rw [e1]
  try rw [e2]
  try rw [e3]
  try rw [e4]
  refine wpAnyH_ready (rs := [9]) (by kernel_rfl) (by simp) ?_
  refine AllReadyH.cons (o := ⟨some 61, _, _, _, _, _⟩) rfl (fun K hK => ?_) AllReadyH.nil
  go_simp
  (go_at_call 11; refine (PN _).out.mono ?_; rintro e w' ⟨rfl, rfl⟩)
  refine hK.out _ _ (hHeld) (fun hHeld2 => ?_)
  clear hK K hHeld
  have hHeld := hHeld2
  clear hHeld2
  try simp only [Act.put, List.setIfInBounds_toArray, List.set_cons_zero, List.set_cons_succ]
  try rw [e1]
  try rw [e2]
  try rw [e3]
  try rw [e4]
  first
    | (refine wpAnyH_take (i := 10) (oi := ⟨some 62, _, _, _, _, _⟩) (v := ?va10) rfl (by kernel_rfl) (by kernel_rfl) (by kernel_rfl) (fun _ _ _ h => h) (Or.inl ⟨by rfl, ?hya10⟩) hHeld ?rra10
       case hya10 => (intro w hSw; (try dsimp only at hSw); go_simp; try with_reducible rfl))
    | (refine wpAnyH_take (i := 10) (oi := ⟨some 62, _, _, _, _, _⟩) (v := undef) rfl (by kernel_rfl) (by kernel_rfl) (by kernel_rfl) (fun _ _ _ h => h) (Or.inr ⟨by rfl, rfl⟩) hHeld ?rra10)
  try simp only [Act.put, List.setIfInBounds_toArray, List.set_cons_zero, List.set_cons_succ]
  try rw [e1]
  try rw [e2]
  try rw [e3]
  try rw [e4]
  first
    | (refine wpAnyH_take (i := 11) (oi := ⟨some 11, _, _, _, _, _⟩) (v := ?va11) rfl (by kernel_rfl) (by kernel_rfl) (by kernel_rfl) (fun _ _ _ h => h) (Or.inl ⟨by rfl, ?hya11⟩) hHeld ?rra11
       case hya11 => (intro w hSw; (try dsimp only at hSw); go_simp; try with_reducible rfl))
    | (refine wpAnyH_take (i := 11) (oi := ⟨some 11, _, _, _, _, _⟩) (v := undef) rfl (by kernel_rfl) (by kernel_rfl) (by kernel_rfl) (fun _ _ _ h => h) (Or.inr ⟨by rfl, rfl⟩) hHeld ?rra11)
  try simp only [Act.put, List.setIfInBounds_toArray, List.set_cons_zero, List.set_cons_succ]
  try rw [e1]
  try rw [e2]
  try rw [e3]
  try rw [e4]
  refine wpAnyH_done (by kernel_rfl) ?_ _
  refine NoPanic.normal ?_
  clear hHeld e1 e2 e3 e4
  go_wp2_with fail
  have hK : Below w.heap.size w ((w3.alloc (.cells #[.int .i64 A, .int .i64 (B + 1)] 23)).alloc (.cells #[.int .i64 M, .int .i64 (B + 1)] 23)).drew.drew ∧
      ((w3.alloc (.cells #[.int .i64 A, .int .i64 (B + 1)] 23)).alloc (.cells #[.int .i64 M, .int .i64 (B + 1)] 23)).drew.drew.cell? ⟨N, 0, none⟩ = some (.int .i64 A) ∧
      ((w3.alloc (.cells #[.int .i64 A, .int .i64 (B + 1)] 23)).alloc (.cells #[.int .i64 M, .int .i64 (B + 1)] 23)).drew.drew.cell? ⟨N, 1, none⟩ = some (.int .i64 B) ∧
      ((w3.alloc (.cells #[.int .i64 A, .int .i64 (B + 1)] 23)).alloc (.cells #[.int .i64 M, .int .i64 (B + 1)] 23)).drew.drew.cell? ⟨w3.heap.size, 0, none⟩ = some (.int .i64 A) ∧
      ((w3.alloc (.cells #[.int .i64 A, .int .i64 (B + 1)] 23)).alloc (.cells #[.int .i64 M, .int .i64 (B + 1)] 23)).drew.drew.cell? ⟨w3.heap.size, 1, none⟩ = some (.int .i64 (B + 1)) ∧
      ((w3.alloc (.cells #[.int .i64 A, .int .i64 (B + 1)] 23)).alloc (.cells #[.int .i64 M, .int .i64 (B + 1)] 23)).drew.drew.cell? ⟨w3.heap.size + 1, 0, none⟩ = some (.int .i64 M) ∧
      ((w3.alloc (.cells #[.int .i64 A, .int .i64 (B + 1)] 23)).alloc (.cells #[.int .i64 M, .int .i64 (B + 1)] 23)).drew.drew.cell? ⟨w3.heap.size + 1, 1, none⟩ = some (.int .i64 (B + 1)) :=
    ⟨h5.drew.drew, s0, s1, by simp, by simp, by simp, by simp⟩
  obtain ⟨P1, hP1⟩ : ∃ P1, w3.heap.size = P1 := ⟨_, rfl⟩
  obtain ⟨P2, hP2⟩ : ∃ P2, w3.heap.size + 1 = P2 := ⟨_, rfl⟩
  rw [hP2, hP1] at hK
  rw [hP2, hP1]
  clear hP1 hP2 h3 q0 q1 h4 r0 r1 h5 s0 s1 PN NE LA EX
  have e5 : IntKind.i64.wrap (M - 1) = M - 1 := wrap_id (by omega) (by omega)
  rcases Int.lt_or_le (A + y) M with hc | hc
  · have X1 := C1Y (by omega)
    have X2 := C2N (by omega)
    clear C1Y C1N C2Y C2N
    refine wp_region_noPanic ?_
    refine wp_region_held_drew (S := fun w' => Below w.heap.size w w' ∧ w'.cell? ⟨N, 0, none⟩ = some (.int .i64 A) ∧ w'.cell? ⟨N, 1, none⟩ = some (.int .i64 B) ∧ w'.cell? ⟨P1, 0, none⟩ = some (.int .i64 A) ∧ w'.cell? ⟨P1, 1, none⟩ = some (.int .i64 (B + 1)) ∧ w'.cell? ⟨P2, 0, none⟩ = some (.int .i64 M) ∧ w'.cell? ⟨P2, 1, none⟩ = some (.int .i64 (B + 1))) (by kernel_rfl) (hK) (fun hHeld => ?_)
    first
      | (refine wpAnyH_take (i := 0) (oi := ⟨some 63, _, _, _, _, _⟩) (v := ?vb0) rfl (by kernel_rfl) (by kernel_rfl) (by kernel_rfl) (fun _ _ _ h => h) (Or.inl ⟨by rfl, ?hyb0⟩) hHeld ?rrb0
         case hyb0 => (intro w hSw; (try dsimp only at hSw); go_simp; try with_reducible rfl))
      | (refine wpAnyH_take (i := 0) (oi := ⟨some 63, _, _, _, _, _⟩) (v := undef) rfl (by kernel_rfl) (by kernel_rfl) (by kernel_rfl) (fun _ _ _ h => h) (Or.inr ⟨by rfl, rfl⟩) hHeld ?rrb0)
    try simp only [Act.put, List.setIfInBounds_toArray, List.set_cons_zero, List.set_cons_succ]
    try rw [e5]
    first
      | (refine wpAnyH_take (i := 1) (oi := ⟨some 64, _, _, _, _, _⟩) (v := ?vb1) rfl (by kernel_rfl) (by kernel_rfl) (by kernel_rfl) (fun _ _ _ h => h) (Or.inl ⟨by rfl, ?hyb1⟩) hHeld ?rrb1
         case hyb1 => (intro w hSw; (try dsimp only at hSw); go_simp; try with_reducible rfl))
      | (refine wpAnyH_take (i := 1) (oi := ⟨some 64, _, _, _, _, _⟩) (v := undef) rfl (by kernel_rfl) (by kernel_rfl) (by kernel_rfl) (fun _ _ _ h => h) (Or.inr ⟨by rfl, rfl⟩) hHeld ?rrb1)
    try simp only [Act.put, List.setIfInBounds_toArray, List.set_cons_zero, List.set_cons_succ]
    try rw [e5]
    first
      | (refine wpAnyH_take (i := 2) (oi := ⟨some 65, _, _, _, _, _⟩) (v := ?vb2) rfl (by kernel_rfl) (by kernel_rfl) (by kernel_rfl) (fun _ _ _ h => h) (Or.inl ⟨by rfl, ?hyb2⟩) hHeld ?rrb2
         case hyb2 => (intro w hSw; (try dsimp only at hSw); go_simp; try with_reducible rfl))
      | (refine wpAnyH_take (i := 2) (oi := ⟨some 65, _, _, _, _, _⟩) (v := undef) rfl (by kernel_rfl) (by kernel_rfl) (by kernel_rfl) (fun _ _ _ h => h) (Or.inr ⟨by rfl, rfl⟩) hHeld ?rrb2)
    try simp only [Act.put, List.setIfInBounds_toArray, List.set_cons_zero, List.set_cons_succ]
    try rw [e5]
    refine wpAnyH_ready (rs := [3]) (by kernel_rfl) (by simp) ?_
    refine AllReadyH.cons (o := ⟨some 66, _, _, _, _, _⟩) rfl (fun K hK => ?_) AllReadyH.nil
    go_simp
    (go_at_call 23; refine (V1 _).out.mono ?_; rintro e w4 ⟨rfl, hb4⟩)
    refine hK.out _ _ (keep6 hHeld hb4) (fun hHeld2 => ?_)
    clear hK K hHeld
    have hHeld := hHeld2
    clear hHeld2
    try simp only [Act.put, List.setIfInBounds_toArray, List.set_cons_zero, List.set_cons_succ]
    try rw [e5]
    first
      | (refine wpAnyH_take (i := 4) (oi := ⟨some 67, _, _, _, _, _⟩) (v := ?vb4) rfl (by kernel_rfl) (by kernel_rfl) (by kernel_rfl) (fun _ _ _ h => h) (Or.inl ⟨by rfl, ?hyb4⟩) hHeld ?rrb4
         case hyb4 => (intro w hSw; (try dsimp only at hSw); go_simp; try with_reducible rfl))
      | (refine wpAnyH_take (i := 4) (oi := ⟨some 67, _, _, _, _, _⟩) (v := undef) rfl (by kernel_rfl) (by kernel_rfl) (by kernel_rfl) (fun _ _ _ h => h) (Or.inr ⟨by rfl, rfl⟩) hHeld ?rrb4)
    try simp only [Act.put, List.setIfInBounds_toArray, List.set_cons_zero, List.set_cons_succ]
    try rw [e5]
    first
      | (refine wpAnyH_take (i := 5) (oi := ⟨some 68, _, _, _, _, _⟩) (v := ?vb5) rfl (by kernel_rfl) (by kernel_rfl) (by kernel_rfl) (fun _ _ _ h => h) (Or.inl ⟨by rfl, ?hyb5⟩) hHeld ?rrb5
         case hyb5 => (intro w hSw; (try dsimp only at hSw); go_simp; try with_reducible rfl))
      | (refine wpAnyH_take (i := 5) (oi := ⟨some 68, _, _, _, _, _⟩) (v := undef) rfl (by kernel_rfl) (by kernel_rfl) (by kernel_rfl) (fun _ _ _ h => h) (Or.inr ⟨by rfl, rfl⟩) hHeld ?rrb5)
    try simp only [Act.put, List.setIfInBounds_toArray, List.set_cons_zero, List.set_cons_succ]
    try rw [e5]
    first
      | (refine wpAnyH_take (i := 6) (oi := ⟨some 69, _, _, _, _, _⟩) (v := ?vb6) rfl (by kernel_rfl) (by kernel_rfl) (by kernel_rfl) (fun _ _ _ h => h) (Or.inl ⟨by rfl, ?hyb6⟩) hHeld ?rrb6
         case hyb6 => (intro w hSw; (try dsimp only at hSw); go_simp; try with_reducible rfl))
      | (refine wpAnyH_take (i := 6) (oi := ⟨some 69, _, _, _, _, _⟩) (v := undef) rfl (by kernel_rfl) (by kernel_rfl) (by kernel_rfl) (fun _ _ _ h => h) (Or.inr ⟨by rfl, rfl⟩) hHeld ?rrb6)
    try simp only [Act.put, List.setIfInBounds_toArray, List.set_cons_zero, List.set_cons_succ]
    try rw [e5]
    refine wpAnyH_ready (rs := [7]) (by kernel_rfl) (by simp) ?_
    refine AllReadyH.cons (o := ⟨some 70, _, _, _, _, _⟩) rfl (fun K hK => ?_) AllReadyH.nil
    go_simp
    (go_at_call 23; refine (V2 _).out.mono ?_; rintro e w4 ⟨rfl, hb4⟩)
    refine hK.out _ _ (keep6 hHeld hb4) (fun hHeld2 => ?_)
    clear hK K hHeld
    have hHeld := hHeld2
    clear hHeld2
    try simp only [Act.put, List.setIfInBounds_toArray, List.set_cons_zero, List.set_cons_succ]
    try rw [e5]
    first
      | (refine wpAnyH_take (i := 8) (oi := ⟨some 71, _, _, _, _, _⟩) (v := ?vb8) rfl (by kernel_rfl) (by kernel_rfl) (by kernel_rfl) (fun _ _ _ h => h) (Or.inl ⟨by rfl, ?hyb8⟩) hHeld ?rrb8
         case hyb8 => (intro w hSw; (try dsimp only at hSw); go_simp; try with_reducible rfl))
      | (refine wpAnyH_take (i := 8) (oi := ⟨some 71, _, _, _, _, _⟩) (v := undef) rfl (by kernel_rfl) (by kernel_rfl) (by kernel_rfl) (fun _ _ _ h => h) (Or.inr ⟨by rfl, rfl⟩) hHeld ?rrb8)
    try simp only [Act.put, List.setIfInBounds_toArray, List.set_cons_zero, List.set_cons_succ]
    try rw [e5]
    first
      | (refine wpAnyH_take (i := 9) (oi := ⟨some 72, _, _, _, _, _⟩) (v := ?vb9) rfl (by kernel_rfl) (by kernel_rfl) (by kernel_rfl) (fun _ _ _ h => h) (Or.inl ⟨by rfl, ?hyb9⟩) hHeld ?rrb9
         case hyb9 => (intro w hSw; (try dsimp only at hSw); go_simp; try with_reducible rfl))
      | (refine wpAnyH_take (i := 9) (oi := ⟨some 72, _, _, _, _, _⟩) (v := undef) rfl (by kernel_rfl) (by kernel_rfl) (by kernel_rfl) (fun _ _ _ h => h) (Or.inr ⟨by rfl, rfl⟩) hHeld ?rrb9)
    try simp only [Act.put, List.setIfInBounds_toArray, List.set_cons_zero, List.set_cons_succ]
    try rw [e5]
    first
      | (refine wpAnyH_take (i := 10) (oi := ⟨some 73, _, _, _, _, _⟩) (v := ?vb10) rfl (by kernel_rfl) (by kernel_rfl) (by kernel_rfl) (fun _ _ _ h => h) (Or.inl ⟨by rfl, ?hyb10⟩) hHeld ?rrb10
         case hyb10 => (intro w hSw; (try dsimp only at hSw); go_simp; try with_reducible rfl))
      | (refine wpAnyH_take (i := 10) (oi := ⟨some 73, _, _, _, _, _⟩) (v := undef) rfl (by kernel_rfl) (by kernel_rfl) (by kernel_rfl) (fun _ _ _ h => h) (Or.inr ⟨by rfl, rfl⟩) hHeld ?rrb10)
    try simp only [Act.put, List.setIfInBounds_toArray, List.set_cons_zero, List.set_cons_succ]
    try rw [e5]
    first
      | (refine wpAnyH_take (i := 12) (oi := ⟨some 75, _, _, _, _, _⟩) (v := ?vb12) rfl (by kernel_rfl) (by kernel_rfl) (by kernel_rfl) (fun _ _ _ h => h) (Or.inl ⟨by rfl, ?hyb12⟩) hHeld ?rrb12
         case hyb12 => (intro w hSw; (try dsimp only at hSw); go_simp; try with_reducible rfl))
      | (refine wpAnyH_take (i := 12) (oi := ⟨some 75, _, _, _, _, _⟩) (v := undef) rfl (by kernel_rfl) (by kernel_rfl) (by kernel_rfl) (fun _ _ _ h => h) (Or.inr ⟨by rfl, rfl⟩) hHeld ?rrb12)
    try simp only [Act.put, List.setIfInBounds_toArray, List.set_cons_zero, List.set_cons_succ]
    try rw [e5]
    first
      | (refine wpAnyH_take (i := 13) (oi := ⟨some 76, _, _, _, _, _⟩) (v := ?vb13) rfl (by kernel_rfl) (by kernel_rfl) (by kernel_rfl) (fun _ _ _ h => h) (Or.inl ⟨by rfl, ?hyb13⟩) hHeld ?rrb13
         case hyb13 => (intro w hSw; (try dsimp only at hSw); go_simp; try with_reducible rfl))
      | (refine wpAnyH_take (i := 13) (oi := ⟨some 76, _, _, _, _, _⟩) (v := undef) rfl (by kernel_rfl) (by kernel_rfl) (by kernel_rfl) (fun _ _ _ h => h) (Or.inr ⟨by rfl, rfl⟩) hHeld ?rrb13)
    try simp only [Act.put, List.setIfInBounds_toArray, List.set_cons_zero, List.set_cons_succ]
    try rw [e5]
    refine wpAnyH_ready (rs := [11]) (by kernel_rfl) (by simp) ?_
    refine AllReadyH.cons (o := ⟨some 74, _, _, _, _, _⟩) rfl (fun K hK => ?_) AllReadyH.nil
    go_simp
    (go_at_call 22; refine (L1 _).out.mono ?_; rintro e w4 ⟨rfl, hb4⟩)
    refine hK.out _ _ (keep6 hHeld hb4) (fun hHeld2 => ?_)
    clear hK K hHeld
    have hHeld := hHeld2
    clear hHeld2
    try simp only [Act.put, List.setIfInBounds_toArray, List.set_cons_zero, List.set_cons_succ]
    try rw [e5]
    first
      | (refine wpAnyH_take (i := 14) (oi := ⟨some 77, _, _, _, _, _⟩) (v := ?vb14) rfl (by kernel_rfl) (by kernel_rfl) (by kernel_rfl) (fun _ _ _ h => h) (Or.inl ⟨by rfl, ?hyb14⟩) hHeld ?rrb14
         case hyb14 => (intro w hSw; (try dsimp only at hSw); go_simp; try with_reducible rfl))
      | (refine wpAnyH_take (i := 14) (oi := ⟨some 77, _, _, _, _, _⟩) (v := undef) rfl (by kernel_rfl) (by kernel_rfl) (by kernel_rfl) (fun _ _ _ h => h) (Or.inr ⟨by rfl, rfl⟩) hHeld ?rrb14)
    try simp only [Act.put, List.setIfInBounds_toArray, List.set_cons_zero, List.set_cons_succ]
    try rw [e5]
    first
      | (refine wpAnyH_take (i := 15) (oi := ⟨some 78, _, _, _, _, _⟩) (v := ?vb15) rfl (by kernel_rfl) (by kernel_rfl) (by kernel_rfl) (fun _ _ _ h => h) (Or.inl ⟨by rfl, ?hyb15⟩) hHeld ?rrb15
         case hyb15 => (intro w hSw; (try dsimp only at hSw); go_simp; try with_reducible rfl))
      | (refine wpAnyH_take (i := 15) (oi := ⟨some 78, _, _, _, _, _⟩) (v := undef) rfl (by kernel_rfl) (by kernel_rfl) (by kernel_rfl) (fun _ _ _ h => h) (Or.inr ⟨by rfl, rfl⟩) hHeld ?rrb15)
    try simp only [Act.put, List.setIfInBounds_toArray, List.set_cons_zero, List.set_cons_succ]
    try rw [e5]
    first
      | (refine wpAnyH_take (i := 16) (oi := ⟨some 79, _, _, _, _, _⟩) (v := ?vb16) rfl (by kernel_rfl) (by kernel_rfl) (by kernel_rfl) (fun _ _ _ h => h) (Or.inl ⟨by rfl, ?hyb16⟩) hHeld ?rrb16
         case hyb16 => (intro w hSw; (try dsimp only at hSw); go_simp; try with_reducible rfl))
      | (refine wpAnyH_take (i := 16) (oi := ⟨some 79, _, _, _, _, _⟩) (v := undef) rfl (by kernel_rfl) (by kernel_rfl) (by kernel_rfl) (fun _ _ _ h => h) (Or.inr ⟨by rfl, rfl⟩) hHeld ?rrb16)
    try simp only [Act.put, List.setIfInBounds_toArray, List.set_cons_zero, List.set_cons_succ]
    try rw [e5]
    first
      | (refine wpAnyH_take (i := 17) (oi := ⟨some 80, _, _, _, _, _⟩) (v := ?vb17) rfl (by kernel_rfl) (by kernel_rfl) (by kernel_rfl) (fun _ _ _ h => h) (Or.inl ⟨by rfl, ?hyb17⟩) hHeld ?rrb17
         case hyb17 => (intro w hSw; (try dsimp only at hSw); go_simp; try with_reducible rfl))
      | (refine wpAnyH_take (i := 17) (oi := ⟨some 80, _, _, _, _, _⟩) (v := undef) rfl (by kernel_rfl) (by kernel_rfl) (by kernel_rfl) (fun _ _ _ h => h) (Or.inr ⟨by rfl, rfl⟩) hHeld ?rrb17)
    try simp only [Act.put, List.setIfInBounds_toArray, List.set_cons_zero, List.set_cons_succ]
    try rw [e5]
    first
      | (refine wpAnyH_take (i := 19) (oi := ⟨some 82, _, _, _, _, _⟩) (v := ?vb19) rfl (by kernel_rfl) (by kernel_rfl) (by kernel_rfl) (fun _ _ _ h => h) (Or.inl ⟨by rfl, ?hyb19⟩) hHeld ?rrb19
         case hyb19 => (intro w hSw; (try dsimp only at hSw); go_simp; try with_reducible rfl))
      | (refine wpAnyH_take (i := 19) (oi := ⟨some 82, _, _, _, _, _⟩) (v := undef) rfl (by kernel_rfl) (by kernel_rfl) (by kernel_rfl) (fun _ _ _ h => h) (Or.inr ⟨by rfl, rfl⟩) hHeld ?rrb19)
    try simp only [Act.put, List.setIfInBounds_toArray, List.set_cons_zero, List.set_cons_succ]
    try rw [e5]
    refine wpAnyH_ready (rs := [18]) (by kernel_rfl) (by simp) ?_
    refine AllReadyH.cons (o := ⟨some 81, _, _, _, _, _⟩) rfl (fun K hK => ?_) AllReadyH.nil
    go_simp
    (go_at_call 22; refine (L2 _).out.mono ?_; rintro e w4 ⟨rfl, hb4⟩)
    refine hK.out _ _ (keep6 hHeld hb4) (fun hHeld2 => ?_)
    clear hK K hHeld
    have hHeld := hHeld2
    clear hHeld2
    try simp only [Act.put, List.setIfInBounds_toArray, List.set_cons_zero, List.set_cons_succ]
    try rw [e5]
    first
      | (refine wpAnyH_take (i := 20) (oi := ⟨some 83, _, _, _, _, _⟩) (v := ?vb20) rfl (by kernel_rfl) (by kernel_rfl) (by kernel_rfl) (fun _ _ _ h => h) (Or.inl ⟨by rfl, ?hyb20⟩) hHeld ?rrb20
         case hyb20 => (intro w hSw; (try dsimp only at hSw); go_simp; try with_reducible rfl))
      | (refine wpAnyH_take (i := 20) (oi := ⟨some 83, _, _, _, _, _⟩) (v := undef) rfl (by kernel_rfl) (by kernel_rfl) (by kernel_rfl) (fun _ _ _ h => h) (Or.inr ⟨by rfl, rfl⟩) hHeld ?rrb20)
    try simp only [Act.put, List.setIfInBounds_toArray, List.set_cons_zero, List.set_cons_succ]
    try rw [e5]
    first
      | (refine wpAnyH_take (i := 21) (oi := ⟨some 84, _, _, _, _, _⟩) (v := ?vb21) rfl (by kernel_rfl) (by kernel_rfl) (by kernel_rfl) (fun _ _ _ h => h) (Or.inl ⟨by rfl, ?hyb21⟩) hHeld ?rrb21
         case hyb21 => (intro w hSw; (try dsimp only at hSw); go_simp; try with_reducible rfl))
      | (refine wpAnyH_take (i := 21) (oi := ⟨some 84, _, _, _, _, _⟩) (v := undef) rfl (by kernel_rfl) (by kernel_rfl) (by kernel_rfl) (fun _ _ _ h => h) (Or.inr ⟨by rfl, rfl⟩) hHeld ?rrb21)
    try simp only [Act.put, List.setIfInBounds_toArray, List.set_cons_zero, List.set_cons_succ]
    try rw [e5]
    first
      | (refine wpAnyH_take (i := 22) (oi := ⟨some 85, _, _, _, _, _⟩) (v := ?vb22) rfl (by kernel_rfl) (by kernel_rfl) (by kernel_rfl) (fun _ _ _ h => h) (Or.inl ⟨by rfl, ?hyb22⟩) hHeld ?rrb22
         case hyb22 => (intro w hSw; (try dsimp only at hSw); go_simp; try with_reducible rfl))
      | (refine wpAnyH_take (i := 22) (oi := ⟨some 85, _, _, _, _, _⟩) (v := undef) rfl (by kernel_rfl) (by kernel_rfl) (by kernel_rfl) (fun _ _ _ h => h) (Or.inr ⟨by rfl, rfl⟩) hHeld ?rrb22)
    try simp only [Act.put, List.setIfInBounds_toArray, List.set_cons_zero, List.set_cons_succ]
    try rw [e5]
    first
      | (refine wpAnyH_take (i := 23) (oi := ⟨some 86, _, _, _, _, _⟩) (v := ?vb23) rfl (by kernel_rfl) (by kernel_rfl) (by kernel_rfl) (fun _ _ _ h => h) (Or.inl ⟨by rfl, ?hyb23⟩) hHeld ?rrb23
         case hyb23 => (intro w hSw; (try dsimp only at hSw); go_simp; try with_reducible rfl))
      | (refine wpAnyH_take (i := 23) (oi := ⟨some 86, _, _, _, _, _⟩) (v := undef) rfl (by kernel_rfl) (by kernel_rfl) (by kernel_rfl) (fun _ _ _ h => h) (Or.inr ⟨by rfl, rfl⟩) hHeld ?rrb23)
    try simp only [Act.put, List.setIfInBounds_toArray, List.set_cons_zero, List.set_cons_succ]
    try rw [e5]
    first
      | (refine wpAnyH_take (i := 24) (oi := ⟨some 87, _, _, _, _, _⟩) (v := ?vb24) rfl (by kernel_rfl) (by kernel_rfl) (by kernel_rfl) (fun _ _ _ h => h) (Or.inl ⟨by rfl, ?hyb24⟩) hHeld ?rrb24
         case hyb24 => (intro w hSw; (try dsimp only at hSw); go_simp; try with_reducible rfl))
      | (refine wpAnyH_take (i := 24) (oi := ⟨some 87, _, _, _, _, _⟩) (v := undef) rfl (by kernel_rfl) (by kernel_rfl) (by kernel_rfl) (fun _ _ _ h => h) (Or.inr ⟨by rfl, rfl⟩) hHeld ?rrb24)
    try simp only [Act.put, List.setIfInBounds_toArray, List.set_cons_zero, List.set_cons_succ]
    try rw [e5]
    first
      | (refine wpAnyH_take (i := 26) (oi := ⟨some 89, _, _, _, _, _⟩) (v := ?vb26) rfl (by kernel_rfl) (by kernel_rfl) (by kernel_rfl) (fun _ _ _ h => h) (Or.inl ⟨by rfl, ?hyb26⟩) hHeld ?rrb26
         case hyb26 => (intro w hSw; (try dsimp only at hSw); go_simp; try with_reducible rfl))
      | (refine wpAnyH_take (i := 26) (oi := ⟨some 89, _, _, _, _, _⟩) (v := undef) rfl (by kernel_rfl) (by kernel_rfl) (by kernel_rfl) (fun _ _ _ h => h) (Or.inr ⟨by rfl, rfl⟩) hHeld ?rrb26)
    try simp only [Act.put, List.setIfInBounds_toArray, List.set_cons_zero, List.set_cons_succ]
    try rw [e5]
    first
      | (refine wpAnyH_take (i := 27) (oi := ⟨some 90, _, _, _, _, _⟩) (v := ?vb27) rfl (by kernel_rfl) (by kernel_rfl) (by kernel_rfl) (fun _ _ _ h => h) (Or.inl ⟨by rfl, ?hyb27⟩) hHeld ?rrb27
         case hyb27 => (intro w hSw; (try dsimp only at hSw); go_simp; try with_reducible rfl))
      | (refine wpAnyH_take (i := 27) (oi := ⟨some 90, _, _, _, _, _⟩) (v := undef) rfl (by kernel_rfl) (by kernel_rfl) (by kernel_rfl) (fun _ _ _ h => h) (Or.inr ⟨by rfl, rfl⟩) hHeld ?rrb27)
    try simp only [Act.put, List.setIfInBounds_toArray, List.set_cons_zero, List.set_cons_succ]
    try rw [e5]
    refine wpAnyH_ready (rs := [25]) (by kernel_rfl) (by simp) ?_
    refine AllReadyH.cons (o := ⟨some 88, _, _, _, _, _⟩) rfl (fun K hK => ?_) AllReadyH.nil
    go_simp
    (go_at_call 24; refine (X1 _).out.mono ?_; rintro e w4 ⟨rfl, hb4⟩)
    refine hK.out _ _ (keep6 hHeld hb4) (fun hHeld2 => ?_)
    clear hK K hHeld
    have hHeld := hHeld2
    clear hHeld2
    try simp only [Act.put, List.setIfInBounds_toArray, List.set_cons_zero, List.set_cons_succ]
    try rw [e5]
    refine wpAnyH_ready (rs := [28]) (by kernel_rfl) (by simp) ?_
    refine AllReadyH.cons (o := ⟨some 91, _, _, _, _, _⟩) rfl (fun K hK => ?_) AllReadyH.nil
    go_simp
    (go_at_call 24; refine (X2 _).out.mono ?_; rintro e w4 ⟨rfl, hb4⟩)
    refine hK.out _ _ (keep6 hHeld hb4) (fun hHeld2 => ?_)
    clear hK K hHeld
    have hHeld := hHeld2
    clear hHeld2
    try simp only [Act.put, List.setIfInBounds_toArray, List.set_cons_zero, List.set_cons_succ]
    try rw [e5]
    first
      | (refine wpAnyH_take (i := 29) (oi := ⟨some 92, _, _, _, _, _⟩) (v := ?vb29) rfl (by kernel_rfl) (by kernel_rfl) (by kernel_rfl) (fun _ _ _ h => h) (Or.inl ⟨by rfl, ?hyb29⟩) hHeld ?rrb29
         case hyb29 => (intro w hSw; (try dsimp only at hSw); go_simp; try with_reducible rfl))
      | (refine wpAnyH_take (i := 29) (oi := ⟨some 92, _, _, _, _, _⟩) (v := undef) rfl (by kernel_rfl) (by kernel_rfl) (by kernel_rfl) (fun _ _ _ h => h) (Or.inr ⟨by rfl, rfl⟩) hHeld ?rrb29)
    try simp only [Act.put, List.setIfInBounds_toArray, List.set_cons_zero, List.set_cons_succ]
    try rw [e5]
    first
      | (refine wpAnyH_take (i := 30) (oi := ⟨some 93, _, _, _, _, _⟩) (v := ?vb30) rfl (by kernel_rfl) (by kernel_rfl) (by kernel_rfl) (fun _ _ _ h => h) (Or.inl ⟨by rfl, ?hyb30⟩) hHeld ?rrb30
         case hyb30 => (intro w hSw; (try dsimp only at hSw); go_simp; try with_reducible rfl))
      | (refine wpAnyH_take (i := 30) (oi := ⟨some 93, _, _, _, _, _⟩) (v := undef) rfl (by kernel_rfl) (by kernel_rfl) (by kernel_rfl) (fun _ _ _ h => h) (Or.inr ⟨by rfl, rfl⟩) hHeld ?rrb30)
    try simp only [Act.put, List.setIfInBounds_toArray, List.set_cons_zero, List.set_cons_succ]
    try rw [e5]
    first
      | (refine wpAnyH_take (i := 31) (oi := ⟨some 94, _, _, _, _, _⟩) (v := ?vb31) rfl (by kernel_rfl) (by kernel_rfl) (by kernel_rfl) (fun _ _ _ h => h) (Or.inl ⟨by rfl, ?hyb31⟩) hHeld ?rrb31
         case hyb31 => (intro w hSw; (try dsimp only at hSw); go_simp; try with_reducible rfl))
      | (refine wpAnyH_take (i := 31) (oi := ⟨some 94, _, _, _, _, _⟩) (v := undef) rfl (by kernel_rfl) (by kernel_rfl) (by kernel_rfl) (fun _ _ _ h => h) (Or.inr ⟨by rfl, rfl⟩) hHeld ?rrb31)
    try simp only [Act.put, List.setIfInBounds_toArray, List.set_cons_zero, List.set_cons_succ]
    try rw [e5]
    first
      | (refine wpAnyH_take (i := 32) (oi := ⟨some 95, _, _, _, _, _⟩) (v := ?vb32) rfl (by kernel_rfl) (by kernel_rfl) (by kernel_rfl) (fun _ _ _ h => h) (Or.inl ⟨by rfl, ?hyb32⟩) hHeld ?rrb32
         case hyb32 => (intro w hSw; (try dsimp only at hSw); go_simp; try with_reducible rfl))
      | (refine wpAnyH_take (i := 32) (oi := ⟨some 95, _, _, _, _, _⟩) (v := undef) rfl (by kernel_rfl) (by kernel_rfl) (by kernel_rfl) (fun _ _ _ h => h) (Or.inr ⟨by rfl, rfl⟩) hHeld ?rrb32)
    try simp only [Act.put, List.setIfInBounds_toArray, List.set_cons_zero, List.set_cons_succ]
    try rw [e5]
    first
      | (refine wpAnyH_take (i := 33) (oi := ⟨some 96, _, _, _, _, _⟩) (v := ?vb33) rfl (by kernel_rfl) (by kernel_rfl) (by kernel_rfl) (fun _ _ _ h => h) (Or.inl ⟨by rfl, ?hyb33⟩) hHeld ?rrb33
         case hyb33 => (intro w hSw; (try dsimp only at hSw); go_simp; try with_reducible rfl))
      | (refine wpAnyH_take (i := 33) (oi := ⟨some 96, _, _, _, _, _⟩) (v := undef) rfl (by kernel_rfl) (by kernel_rfl) (by kernel_rfl) (fun _ _ _ h => h) (Or.inr ⟨by rfl, rfl⟩) hHeld ?rrb33)
    try simp only [Act.put, List.setIfInBounds_toArray, List.set_cons_zero, List.set_cons_succ]
    try rw [e5]
    refine wpAnyH_ready (rs := [34]) (by kernel_rfl) (by simp) ?_
    refine AllReadyH.cons (o := ⟨some 97, _, _, _, _, _⟩) rfl (fun K hK => ?_) AllReadyH.nil
    go_simp
    (go_at_call 24; refine (CM _).out.mono ?_; rintro e w4 ⟨rfl, hb4⟩)
    refine hK.out _ _ (keep6 hHeld hb4) (fun hHeld2 => ?_)
    clear hK K hHeld
    have hHeld := hHeld2
    clear hHeld2
    try simp only [Act.put, List.setIfInBounds_toArray, List.set_cons_zero, List.set_cons_succ]
    try rw [e5]
    first
      | (refine wpAnyH_take (i := 35) (oi := ⟨some 98, _, _, _, _, _⟩) (v := ?vb35) rfl (by kernel_rfl) (by kernel_rfl) (by kernel_rfl) (fun _ _ _ h => h) (Or.inl ⟨by rfl, ?hyb35⟩) hHeld ?rrb35
         case hyb35 => (intro w hSw; (try dsimp only at hSw); go_simp; try with_reducible rfl))
      | (refine wpAnyH_take (i := 35) (oi := ⟨some 98, _, _, _, _, _⟩) (v := undef) rfl (by kernel_rfl) (by kernel_rfl) (by kernel_rfl) (fun _ _ _ h => h) (Or.inr ⟨by rfl, rfl⟩) hHeld ?rrb35)
    try simp only [Act.put, List.setIfInBounds_toArray, List.set_cons_zero, List.set_cons_succ]
    try rw [e5]
    first
      | (refine wpAnyH_take (i := 36) (oi := ⟨some 4, _, _, _, _, _⟩) (v := ?vb36) rfl (by kernel_rfl) (by kernel_rfl) (by kernel_rfl) (fun _ _ _ h => h) (Or.inl ⟨by rfl, ?hyb36⟩) hHeld ?rrb36
         case hyb36 => (intro w hSw; (try dsimp only at hSw); go_simp; try with_reducible rfl))
      | (refine wpAnyH_take (i := 36) (oi := ⟨some 4, _, _, _, _, _⟩) (v := undef) rfl (by kernel_rfl) (by kernel_rfl) (by kernel_rfl) (fun _ _ _ h => h) (Or.inr ⟨by rfl, rfl⟩) hHeld ?rrb36)
    try simp only [Act.put, List.setIfInBounds_toArray, List.set_cons_zero, List.set_cons_succ]
    try rw [e5]
    refine wpAnyH_done (by kernel_rfl) ?_ _
    refine NoPanic.normal ?_
    go_wp2
    go_ret
    exact ⟨rfl, hHeld.1⟩
  · have X1 := C1N (by omega)
    have X2 := C2Y (by omega) (by omega)
    clear C1Y C1N C2Y C2N
    refine wp_region_noPanic ?_
    refine wp_region_held_drew (S := fun w' => Below w.heap.size w w' ∧ w'.cell? ⟨N, 0, none⟩ = some (.int .i64 A) ∧ w'.cell? ⟨N, 1, none⟩ = some (.int .i64 B) ∧ w'.cell? ⟨P1, 0, none⟩ = some (.int .i64 A) ∧ w'.cell? ⟨P1, 1, none⟩ = some (.int .i64 (B + 1)) ∧ w'.cell? ⟨P2, 0, none⟩ = some (.int .i64 M) ∧ w'.cell? ⟨P2, 1, none⟩ = some (.int .i64 (B + 1))) (by kernel_rfl) (hK) (fun hHeld => ?_)
    first
      | (refine wpAnyH_take (i := 0) (oi := ⟨some 63, _, _, _, _, _⟩) (v := ?vc0) rfl (by kernel_rfl) (by kernel_rfl) (by kernel_rfl) (fun _ _ _ h => h) (Or.inl ⟨by rfl, ?hyc0⟩) hHeld ?rrc0
         case hyc0 => (intro w hSw; (try dsimp only at hSw); go_simp; try with_reducible rfl))
      | (refine wpAnyH_take (i := 0) (oi := ⟨some 63, _, _, _, _, _⟩) (v := undef) rfl (by kernel_rfl) (by kernel_rfl) (by kernel_rfl) (fun _ _ _ h => h) (Or.inr ⟨by rfl, rfl⟩) hHeld ?rrc0)
    try simp only [Act.put, List.setIfInBounds_toArray, List.set_cons_zero, List.set_cons_succ]
    try rw [e5]
    first
      | (refine wpAnyH_take (i := 1) (oi := ⟨some 64, _, _, _, _, _⟩) (v := ?vc1) rfl (by kernel_rfl) (by kernel_rfl) (by kernel_rfl) (fun _ _ _ h => h) (Or.inl ⟨by rfl, ?hyc1⟩) hHeld ?rrc1
         case hyc1 => (intro w hSw; (try dsimp only at hSw); go_simp; try with_reducible rfl))
      | (refine wpAnyH_take (i := 1) (oi := ⟨some 64, _, _, _, _, _⟩) (v := undef) rfl (by kernel_rfl) (by kernel_rfl) (by kernel_rfl) (fun _ _ _ h => h) (Or.inr ⟨by rfl, rfl⟩) hHeld ?rrc1)
    try simp only [Act.put, List.setIfInBounds_toArray, List.set_cons_zero, List.set_cons_succ]
    try rw [e5]
    first
      | (refine wpAnyH_take (i := 2) (oi := ⟨some 65, _, _, _, _, _⟩) (v := ?vc2) rfl (by kernel_rfl) (by kernel_rfl) (by kernel_rfl) (fun _ _ _ h => h) (Or.inl ⟨by rfl, ?hyc2⟩) hHeld ?rrc2
         case hyc2 => (intro w hSw; (try dsimp only at hSw); go_simp; try with_reducible rfl))
      | (refine wpAnyH_take (i := 2) (oi := ⟨some 65, _, _, _, _, _⟩) (v := undef) rfl (by kernel_rfl) (by kernel_rfl) (by kernel_rfl) (fun _ _ _ h => h) (Or.inr ⟨by rfl, rfl⟩) hHeld ?rrc2)
    try simp only [Act.put, List.setIfInBounds_toArray, List.set_cons_zero, List.set_cons_succ]
    try rw [e5]
    refine wpAnyH_ready (rs := [3]) (by kernel_rfl) (by simp) ?_
    refine AllReadyH.cons (o := ⟨some 66, _, _, _, _, _⟩) rfl (fun K hK => ?_) AllReadyH.nil
    go_simp
    (go_at_call 23; refine (V1 _).out.mono ?_; rintro e w4 ⟨rfl, hb4⟩)
    refine hK.out _ _ (keep6 hHeld hb4) (fun hHeld2 => ?_)
    clear hK K hHeld
    have hHeld := hHeld2
    clear hHeld2
    try simp only [Act.put, List.setIfInBounds_toArray, List.set_cons_zero, List.set_cons_succ]
    try rw [e5]
    first
      | (refine wpAnyH_take (i := 4) (oi := ⟨some 67, _, _, _, _, _⟩) (v := ?vc4) rfl (by kernel_rfl) (by kernel_rfl) (by kernel_rfl) (fun _ _ _ h => h) (Or.inl ⟨by rfl, ?hyc4⟩) hHeld ?rrc4
         case hyc4 => (intro w hSw; (try dsimp only at hSw); go_simp; try with_reducible rfl))
      | (refine wpAnyH_take (i := 4) (oi := ⟨some 67, _, _, _, _, _⟩) (v := undef) rfl (by kernel_rfl) (by kernel_rfl) (by kernel_rfl) (fun _ _ _ h => h) (Or.inr ⟨by rfl, rfl⟩) hHeld ?rrc4)
    try simp only [Act.put, List.setIfInBounds_toArray, List.set_cons_zero, List.set_cons_succ]
    try rw [e5]
    first
      | (refine wpAnyH_take (i := 5) (oi := ⟨some 68, _, _, _, _, _⟩) (v := ?vc5) rfl (by kernel_rfl) (by kernel_rfl) (by kernel_rfl) (fun _ _ _ h => h) (Or.inl ⟨by rfl, ?hyc5⟩) hHeld ?rrc5
         case hyc5 => (intro w hSw; (try dsimp only at hSw); go_simp; try with_reducible rfl))
      | (refine wpAnyH_take (i := 5) (oi := ⟨some 68, _, _, _, _, _⟩) (v := undef) rfl (by kernel_rfl) (by kernel_rfl) (by kernel_rfl) (fun _ _ _ h => h) (Or.inr ⟨by rfl, rfl⟩) hHeld ?rrc5)
    try simp only [Act.put, List.setIfInBounds_toArray, List.set_cons_zero, List.set_cons_succ]
    try rw [e5]
    first
      | (refine wpAnyH_take (i := 6) (oi := ⟨some 69, _, _, _, _, _⟩) (v := ?vc6) rfl (by kernel_rfl) (by kernel_rfl) (by kernel_rfl) (fun _ _ _ h => h) (Or.inl ⟨by rfl, ?hyc6⟩) hHeld ?rrc6
         case hyc6 => (intro w hSw; (try dsimp only at hSw); go_simp; try with_reducible rfl))
      | (refine wpAnyH_take (i := 6) (oi := ⟨some 69, _, _, _, _, _⟩) (v := undef) rfl (by kernel_rfl) (by kernel_rfl) (by kernel_rfl) (fun _ _ _ h => h) (Or.inr ⟨by rfl, rfl⟩) hHeld ?rrc6)
    try simp only [Act.put, List.setIfInBounds_toArray, List.set_cons_zero, List.set_cons_succ]
    try rw [e5]
    refine wpAnyH_ready (rs := [7]) (by kernel_rfl) (by simp) ?_
    refine AllReadyH.cons (o := ⟨some 70, _, _, _, _, _⟩) rfl (fun K hK => ?_) AllReadyH.nil
    go_simp
    (go_at_call 23; refine (V2 _).out.mono ?_; rintro e w4 ⟨rfl, hb4⟩)
    refine hK.out _ _ (keep6 hHeld hb4) (fun hHeld2 => ?_)
    clear hK K hHeld
    have hHeld := hHeld2
    clear hHeld2
    try simp only [Act.put, List.setIfInBounds_toArray, List.set_cons_zero, List.set_cons_succ]
    try rw [e5]
    first
      | (refine wpAnyH_take (i := 8) (oi := ⟨some 71, _, _, _, _, _⟩) (v := ?vc8) rfl (by kernel_rfl) (by kernel_rfl) (by kernel_rfl) (fun _ _ _ h => h) (Or.inl ⟨by rfl, ?hyc8⟩) hHeld ?rrc8
         case hyc8 => (intro w hSw; (try dsimp only at hSw); go_simp; try with_reducible rfl))
      | (refine wpAnyH_take (i := 8) (oi := ⟨some 71, _, _, _, _, _⟩) (v := undef) rfl (by kernel_rfl) (by kernel_rfl) (by kernel_rfl) (fun _ _ _ h => h) (Or.inr ⟨by rfl, rfl⟩) hHeld ?rrc8)
    try simp only [Act.put, List.setIfInBounds_toArray, List.set_cons_zero, List.set_cons_succ]
    try rw [e5]
    first
      | (refine wpAnyH_take (i := 9) (oi := ⟨some 72, _, _, _, _, _⟩) (v := ?vc9) rfl (by kernel_rfl) (by kernel_rfl) (by kernel_rfl) (fun _ _ _ h => h) (Or.inl ⟨by rfl, ?hyc9⟩) hHeld ?rrc9
         case hyc9 => (intro w hSw; (try dsimp only at hSw); go_simp; try with_reducible rfl))
      | (refine wpAnyH_take (i := 9) (oi := ⟨some 72, _, _, _, _, _⟩) (v := undef) rfl (by kernel_rfl) (by kernel_rfl) (by kernel_rfl) (fun _ _ _ h => h) (Or.inr ⟨by rfl, rfl⟩) hHeld ?rrc9)
    try simp only [Act.put, List.setIfInBounds_toArray, List.set_cons_zero, List.set_cons_succ]
    try rw [e5]
    first
      | (refine wpAnyH_take (i := 10) (oi := ⟨some 73, _, _, _, _, _⟩) (v := ?vc10) rfl (by kernel_rfl) (by kernel_rfl) (by kernel_rfl) (fun _ _ _ h => h) (Or.inl ⟨by rfl, ?hyc10⟩) hHeld ?rrc10
         case hyc10 => (intro w hSw; (try dsimp only at hSw); go_simp; try with_reducible rfl))
      | (refine wpAnyH_take (i := 10) (oi := ⟨some 73, _, _, _, _, _⟩) (v := undef) rfl (by kernel_rfl) (by kernel_rfl) (by kernel_rfl) (fun _ _ _ h => h) (Or.inr ⟨by rfl, rfl⟩) hHeld ?rrc10)
    try simp only [Act.put, List.setIfInBounds_toArray, List.set_cons_zero, List.set_cons_succ]
    try rw [e5]
    first
      | (refine wpAnyH_take (i := 12) (oi := ⟨some 75, _, _, _, _, _⟩) (v := ?vc12) rfl (by kernel_rfl) (by kernel_rfl) (by kernel_rfl) (fun _ _ _ h => h) (Or.inl ⟨by rfl, ?hyc12⟩) hHeld ?rrc12
         case hyc12 => (intro w hSw; (try dsimp only at hSw); go_simp; try with_reducible rfl))
      | (refine wpAnyH_take (i := 12) (oi := ⟨some 75, _, _, _, _, _⟩) (v := undef) rfl (by kernel_rfl) (by kernel_rfl) (by kernel_rfl) (fun _ _ _ h => h) (Or.inr ⟨by rfl, rfl⟩) hHeld ?rrc12)
    try simp only [Act.put, List.setIfInBounds_toArray, List.set_cons_zero, List.set_cons_succ]
    try rw [e5]
    first
      | (refine wpAnyH_take (i := 13) (oi := ⟨some 76, _, _, _, _, _⟩) (v := ?vc13) rfl (by kernel_rfl) (by kernel_rfl) (by kernel_rfl) (fun _ _ _ h => h) (Or.inl ⟨by rfl, ?hyc13⟩) hHeld ?rrc13
         case hyc13 => (intro w hSw; (try dsimp only at hSw); go_simp; try with_reducible rfl))
      | (refine wpAnyH_take (i := 13) (oi := ⟨some 76, _, _, _, _, _⟩) (v := undef) rfl (by kernel_rfl) (by kernel_rfl) (by kernel_rfl) (fun _ _ _ h => h) (Or.inr ⟨by rfl, rfl⟩) hHeld ?rrc13)
    try simp only [Act.put, List.setIfInBounds_toArray, List.set_cons_zero, List.set_cons_succ]
    try rw [e5]
    refine wpAnyH_ready (rs := [11]) (by kernel_rfl) (by simp) ?_
    refine AllReadyH.cons (o := ⟨some 74, _, _, _, _, _⟩) rfl (fun K hK => ?_) AllReadyH.nil
    go_simp
    (go_at_call 22; refine (L1 _).out.mono ?_; rintro e w4 ⟨rfl, hb4⟩)
    refine hK.out _ _ (keep6 hHeld hb4) (fun hHeld2 => ?_)
    clear hK K hHeld
    have hHeld := hHeld2
    clear hHeld2
    try simp only [Act.put, List.setIfInBounds_toArray, List.set_cons_zero, List.set_cons_succ]
    try rw [e5]
    first
      | (refine wpAnyH_take (i := 14) (oi := ⟨some 77, _, _, _, _, _⟩) (v := ?vc14) rfl (by kernel_rfl) (by kernel_rfl) (by kernel_rfl) (fun _ _ _ h => h) (Or.inl ⟨by rfl, ?hyc14⟩) hHeld ?rrc14
         case hyc14 => (intro w hSw; (try dsimp only at hSw); go_simp; try with_reducible rfl))
      | (refine wpAnyH_take (i := 14) (oi := ⟨some 77, _, _, _, _, _⟩) (v := undef) rfl (by kernel_rfl) (by kernel_rfl) (by kernel_rfl) (fun _ _ _ h => h) (Or.inr ⟨by rfl, rfl⟩) hHeld ?rrc14)
    try simp only [Act.put, List.setIfInBounds_toArray, List.set_cons_zero, List.set_cons_succ]
    try rw [e5]
    first
      | (refine wpAnyH_take (i := 15) (oi := ⟨some 78, _, _, _, _, _⟩) (v := ?vc15) rfl (by kernel_rfl) (by kernel_rfl) (by kernel_rfl) (fun _ _ _ h => h) (Or.inl ⟨by rfl, ?hyc15⟩) hHeld ?rrc15
         case hyc15 => (intro w hSw; (try dsimp only at hSw); go_simp; try with_reducible rfl))
      | (refine wpAnyH_take (i := 15) (oi := ⟨some 78, _, _, _, _, _⟩) (v := undef) rfl (by kernel_rfl) (by kernel_rfl) (by kernel_rfl) (fun _ _ _ h => h) (Or.inr ⟨by rfl, rfl⟩) hHeld ?rrc15)
    try simp only [Act.put, List.setIfInBounds_toArray, List.set_cons_zero, List.set_cons_succ]
    try rw [e5]
    first
      | (refine wpAnyH_take (i := 16) (oi := ⟨some 79, _, _, _, _, _⟩) (v := ?vc16) rfl (by kernel_rfl) (by kernel_rfl) (by kernel_rfl) (fun _ _ _ h => h) (Or.inl ⟨by rfl, ?hyc16⟩) hHeld ?rrc16
         case hyc16 => (intro w hSw; (try dsimp only at hSw); go_simp; try with_reducible rfl))
      | (refine wpAnyH_take (i := 16) (oi := ⟨some 79, _, _, _, _, _⟩) (v := undef) rfl (by kernel_rfl) (by kernel_rfl) (by kernel_rfl) (fun _ _ _ h => h) (Or.inr ⟨by rfl, rfl⟩) hHeld ?rrc16)
    try simp only [Act.put, List.setIfInBounds_toArray, List.set_cons_zero, List.set_cons_succ]
    try rw [e5]
    first
      | (refine wpAnyH_take (i := 17) (oi := ⟨some 80, _, _, _, _, _⟩) (v := ?vc17) rfl (by kernel_rfl) (by kernel_rfl) (by kernel_rfl) (fun _ _ _ h => h) (Or.inl ⟨by rfl, ?hyc17⟩) hHeld ?rrc17
         case hyc17 => (intro w hSw; (try dsimp only at hSw); go_simp; try with_reducible rfl))
      | (refine wpAnyH_take (i := 17) (oi := ⟨some 80, _, _, _, _, _⟩) (v := undef) rfl (by kernel_rfl) (by kernel_rfl) (by kernel_rfl) (fun _ _ _ h => h) (Or.inr ⟨by rfl, rfl⟩) hHeld ?rrc17)
    try simp only [Act.put, List.setIfInBounds_toArray, List.set_cons_zero, List.set_cons_succ]
    try rw [e5]
    first
      | (refine wpAnyH_take (i := 19) (oi := ⟨some 82, _, _, _, _, _⟩) (v := ?vc19) rfl (by kernel_rfl) (by kernel_rfl) (by kernel_rfl) (fun _ _ _ h => h) (Or.inl ⟨by rfl, ?hyc19⟩) hHeld ?rrc19
         case hyc19 => (intro w hSw; (try dsimp only at hSw); go_simp; try with_reducible rfl))
      | (refine wpAnyH_take (i := 19) (oi := ⟨some 82, _, _, _, _, _⟩) (v := undef) rfl (by kernel_rfl) (by kernel_rfl) (by kernel_rfl) (fun _ _ _ h => h) (Or.inr ⟨by rfl, rfl⟩) hHeld ?rrc19)
    try simp only [Act.put, List.setIfInBounds_toArray, List.set_cons_zero, List.set_cons_succ]
    try rw [e5]
    refine wpAnyH_ready (rs := [18]) (by kernel_rfl) (by simp) ?_
    refine AllReadyH.cons (o := ⟨some 81, _, _, _, _, _⟩) rfl (fun K hK => ?_) AllReadyH.nil
    go_simp
    (go_at_call 22; refine (L2 _).out.mono ?_; rintro e w4 ⟨rfl, hb4⟩)
    refine hK.out _ _ (keep6 hHeld hb4) (fun hHeld2 => ?_)
    clear hK K hHeld
    have hHeld := hHeld2
    clear hHeld2
    try simp only [Act.put, List.setIfInBounds_toArray, List.set_cons_zero, List.set_cons_succ]
    try rw [e5]
    first
      | (refine wpAnyH_take (i := 20) (oi := ⟨some 83, _, _, _, _, _⟩) (v := ?vc20) rfl (by kernel_rfl) (by kernel_rfl) (by kernel_rfl) (fun _ _ _ h => h) (Or.inl ⟨by rfl, ?hyc20⟩) hHeld ?rrc20
         case hyc20 => (intro w hSw; (try dsimp only at hSw); go_simp; try with_reducible rfl))
      | (refine wpAnyH_take (i := 20) (oi := ⟨some 83, _, _, _, _, _⟩) (v := undef) rfl (by kernel_rfl) (by kernel_rfl) (by kernel_rfl) (fun _ _ _ h => h) (Or.inr ⟨by rfl, rfl⟩) hHeld ?rrc20)
    try simp only [Act.put, List.setIfInBounds_toArray, List.set_cons_zero, List.set_cons_succ]
    try rw [e5]
    first
      | (refine wpAnyH_take (i := 21) (oi := ⟨some 84, _, _, _, _, _⟩) (v := ?vc21) rfl (by kernel_rfl) (by kernel_rfl) (by kernel_rfl) (fun _ _ _ h => h) (Or.inl ⟨by rfl, ?hyc21⟩) hHeld ?rrc21
         case hyc21 => (intro w hSw; (try dsimp only at hSw); go_simp; try with_reducible rfl))
      | (refine wpAnyH_take (i := 21) (oi := ⟨some 84, _, _, _, _, _⟩) (v := undef) rfl (by kernel_rfl) (by kernel_rfl) (by kernel_rfl) (fun _ _ _ h => h) (Or.inr ⟨by rfl, rfl⟩) hHeld ?rrc21)
    try simp only [Act.put, List.setIfInBounds_toArray, List.set_cons_zero, List.set_cons_succ]
    try rw [e5]
    first
      | (refine wpAnyH_take (i := 22) (oi := ⟨some 85, _, _, _, _, _⟩) (v := ?vc22) rfl (by kernel_rfl) (by kernel_rfl) (by kernel_rfl) (fun _ _ _ h => h) (Or.inl ⟨by rfl, ?hyc22⟩) hHeld ?rrc22
         case hyc22 => (intro w hSw; (try dsimp only at hSw); go_simp; try with_reducible rfl))
      | (refine wpAnyH_take (i := 22) (oi := ⟨some 85, _, _, _, _, _⟩) (v := undef) rfl (by kernel_rfl) (by kernel_rfl) (by kernel_rfl) (fun _ _ _ h => h) (Or.inr ⟨by rfl, rfl⟩) hHeld ?rrc22)
    try simp only [Act.put, List.setIfInBounds_toArray, List.set_cons_zero, List.set_cons_succ]
    try rw [e5]
    first
      | (refine wpAnyH_take (i := 23) (oi := ⟨some 86, _, _, _, _, _⟩) (v := ?vc23) rfl (by kernel_rfl) (by kernel_rfl) (by kernel_rfl) (fun _ _ _ h => h) (Or.inl ⟨by rfl, ?hyc23⟩) hHeld ?rrc23
         case hyc23 => (intro w hSw; (try dsimp only at hSw); go_simp; try with_reducible rfl))
      | (refine wpAnyH_take (i := 23) (oi := ⟨some 86, _, _, _, _, _⟩) (v := undef) rfl (by kernel_rfl) (by kernel_rfl) (by kernel_rfl) (fun _ _ _ h => h) (Or.inr ⟨by rfl, rfl⟩) hHeld ?rrc23)
    try simp only [Act.put, List.setIfInBounds_toArray, List.set_cons_zero, List.set_cons_succ]
    try rw [e5]
    first
      | (refine wpAnyH_take (i := 24) (oi := ⟨some 87, _, _, _, _, _⟩) (v := ?vc24) rfl (by kernel_rfl) (by kernel_rfl) (by kernel_rfl) (fun _ _ _ h => h) (Or.inl ⟨by rfl, ?hyc24⟩) hHeld ?rrc24
         case hyc24 => (intro w hSw; (try dsimp only at hSw); go_simp; try with_reducible rfl))
      | (refine wpAnyH_take (i := 24) (oi := ⟨some 87, _, _, _, _, _⟩) (v := undef) rfl (by kernel_rfl) (by kernel_rfl) (by kernel_rfl) (fun _ _ _ h => h) (Or.inr ⟨by rfl, rfl⟩) hHeld ?rrc24)
    try simp only [Act.put, List.setIfInBounds_toArray, List.set_cons_zero, List.set_cons_succ]
    try rw [e5]
    first
      | (refine wpAnyH_take (i := 26) (oi := ⟨some 89, _, _, _, _, _⟩) (v := ?vc26) rfl (by kernel_rfl) (by kernel_rfl) (by kernel_rfl) (fun _ _ _ h => h) (Or.inl ⟨by rfl, ?hyc26⟩) hHeld ?rrc26
         case hyc26 => (intro w hSw; (try dsimp only at hSw); go_simp; try with_reducible rfl))
      | (refine wpAnyH_take (i := 26) (oi := ⟨some 89, _, _, _, _, _⟩) (v := undef) rfl (by kernel_rfl) (by kernel_rfl) (by kernel_rfl) (fun _ _ _ h => h) (Or.inr ⟨by rfl, rfl⟩) hHeld ?rrc26)
    try simp only [Act.put, List.setIfInBounds_toArray, List.set_cons_zero, List.set_cons_succ]
    try rw [e5]
    first
      | (refine wpAnyH_take (i := 27) (oi := ⟨some 90, _, _, _, _, _⟩) (v := ?vc27) rfl (by kernel_rfl) (by kernel_rfl) (by kernel_rfl) (fun _ _ _ h => h) (Or.inl ⟨by rfl, ?hyc27⟩) hHeld ?rrc27
         case hyc27 => (intro w hSw; (try dsimp only at hSw); go_simp; try with_reducible rfl))
      | (refine wpAnyH_take (i := 27) (oi := ⟨some 90, _, _, _, _, _⟩) (v := undef) rfl (by kernel_rfl) (by kernel_rfl) (by kernel_rfl) (fun _ _ _ h => h) (Or.inr ⟨by rfl, rfl⟩) hHeld ?rrc27)
    try simp only [Act.put, List.setIfInBounds_toArray, List.set_cons_zero, List.set_cons_succ]
    try rw [e5]
    refine wpAnyH_ready (rs := [25]) (by kernel_rfl) (by simp) ?_
    refine AllReadyH.cons (o := ⟨some 88, _, _, _, _, _⟩) rfl (fun K hK => ?_) AllReadyH.nil
    go_simp
    (go_at_call 24; refine (X1 _).out.mono ?_; rintro e w4 ⟨rfl, hb4⟩)
    refine hK.out _ _ (keep6 hHeld hb4) (fun hHeld2 => ?_)
    clear hK K hHeld
    have hHeld := hHeld2
    clear hHeld2
    try simp only [Act.put, List.setIfInBounds_toArray, List.set_cons_zero, List.set_cons_succ]
    try rw [e5]
    refine wpAnyH_ready (rs := [28]) (by kernel_rfl) (by simp) ?_
    refine AllReadyH.cons (o := ⟨some 91, _, _, _, _, _⟩) rfl (fun K hK => ?_) AllReadyH.nil
    go_simp
    (go_at_call 24; refine (X2 _).out.mono ?_; rintro e w4 ⟨rfl, hb4⟩)
    refine hK.out _ _ (keep6 hHeld hb4) (fun hHeld2 => ?_)
    clear hK K hHeld
    have hHeld := hHeld2
    clear hHeld2
    try simp only [Act.put, List.setIfInBounds_toArray, List.set_cons_zero, List.set_cons_succ]
    try rw [e5]
    first
      | (refine wpAnyH_take (i := 29) (oi := ⟨some 92, _, _, _, _, _⟩) (v := ?vc29) rfl (by kernel_rfl) (by kernel_rfl) (by kernel_rfl) (fun _ _ _ h => h) (Or.inl ⟨by rfl, ?hyc29⟩) hHeld ?rrc29
         case hyc29 => (intro w hSw; (try dsimp only at hSw); go_simp; try with_reducible rfl))
      | (refine wpAnyH_take (i := 29) (oi := ⟨some 92, _, _, _, _, _⟩) (v := undef) rfl (by kernel_rfl) (by kernel_rfl) (by kernel_rfl) (fun _ _ _ h => h) (Or.inr ⟨by rfl, rfl⟩) hHeld ?rrc29)
    try simp only [Act.put, List.setIfInBounds_toArray, List.set_cons_zero, List.set_cons_succ]
    try rw [e5]
    first
      | (refine wpAnyH_take (i := 30) (oi := ⟨some 93, _, _, _, _, _⟩) (v := ?vc30) rfl (by kernel_rfl) (by kernel_rfl) (by kernel_rfl) (fun _ _ _ h => h) (Or.inl ⟨by rfl, ?hyc30⟩) hHeld ?rrc30
         case hyc30 => (intro w hSw; (try dsimp only at hSw); go_simp; try with_reducible rfl))
      | (refine wpAnyH_take (i := 30) (oi := ⟨some 93, _, _, _, _, _⟩) (v := undef) rfl (by kernel_rfl) (by kernel_rfl) (by kernel_rfl) (fun _ _ _ h => h) (Or.inr ⟨by rfl, rfl⟩) hHeld ?rrc30)
    try simp only [Act.put, List.setIfInBounds_toArray, List.set_cons_zero, List.set_cons_succ]
    try rw [e5]
    first
      | (refine wpAnyH_take (i := 31) (oi := ⟨some 94, _, _, _, _, _⟩) (v := ?vc31) rfl (by kernel_rfl) (by kernel_rfl) (by kernel_rfl) (fun _ _ _ h => h) (Or.inl ⟨by rfl, ?hyc31⟩) hHeld ?rrc31
         case hyc31 => (intro w hSw; (try dsimp only at hSw); go_simp; try with_reducible rfl))
      | (refine wpAnyH_take (i := 31) (oi := ⟨some 94, _, _, _, _, _⟩) (v := undef) rfl (by kernel_rfl) (by kernel_rfl) (by kernel_rfl) (fun _ _ _ h => h) (Or.inr ⟨by rfl, rfl⟩) hHeld ?rrc31)
    try simp only [Act.put, List.setIfInBounds_toArray, List.set_cons_zero, List.set_cons_succ]
    try rw [e5]
    first
      | (refine wpAnyH_take (i := 32) (oi := ⟨some 95, _, _, _, _, _⟩) (v := ?vc32) rfl (by kernel_rfl) (by kernel_rfl) (by kernel_rfl) (fun _ _ _ h => h) (Or.inl ⟨by rfl, ?hyc32⟩) hHeld ?rrc32
         case hyc32 => (intro w hSw; (try dsimp only at hSw); go_simp; try with_reducible rfl))
      | (refine wpAnyH_take (i := 32) (oi := ⟨some 95, _, _, _, _, _⟩) (v := undef) rfl (by kernel_rfl) (by kernel_rfl) (by kernel_rfl) (fun _ _ _ h => h) (Or.inr ⟨by rfl, rfl⟩) hHeld ?rrc32)
    try simp only [Act.put, List.setIfInBounds_toArray, List.set_cons_zero, List.set_cons_succ]
    try rw [e5]
    first
      | (refine wpAnyH_take (i := 33) (oi := ⟨some 96, _, _, _, _, _⟩) (v := ?vc33) rfl (by kernel_rfl) (by kernel_rfl) (by kernel_rfl) (fun _ _ _ h => h) (Or.inl ⟨by rfl, ?hyc33⟩) hHeld ?rrc33
         case hyc33 => (intro w hSw; (try dsimp only at hSw); go_simp; try with_reducible rfl))
      | (refine wpAnyH_take (i := 33) (oi := ⟨some 96, _, _, _, _, _⟩) (v := undef) rfl (by kernel_rfl) (by kernel_rfl) (by kernel_rfl) (fun _ _ _ h => h) (Or.inr ⟨by rfl, rfl⟩) hHeld ?rrc33)
    try simp only [Act.put, List.setIfInBounds_toArray, List.set_cons_zero, List.set_cons_succ]
    try rw [e5]
    refine wpAnyH_ready (rs := [34]) (by kernel_rfl) (by simp) ?_
    refine AllReadyH.cons (o := ⟨some 97, _, _, _, _, _⟩) rfl (fun K hK => ?_) AllReadyH.nil
    go_simp
    (go_at_call 24; refine (CM _).out.mono ?_; rintro e w4 ⟨rfl, hb4⟩)
    refine hK.out _ _ (keep6 hHeld hb4) (fun hHeld2 => ?_)
    clear hK K hHeld
    have hHeld := hHeld2
    clear hHeld2
    try simp only [Act.put, List.setIfInBounds_toArray, List.set_cons_zero, List.set_cons_succ]
    try rw [e5]
    first
      | (refine wpAnyH_take (i := 35) (oi := ⟨some 98, _, _, _, _, _⟩) (v := ?vc35) rfl (by kernel_rfl) (by kernel_rfl) (by kernel_rfl) (fun _ _ _ h => h) (Or.inl ⟨by rfl, ?hyc35⟩) hHeld ?rrc35
         case hyc35 => (intro w hSw; (try dsimp only at hSw); go_simp; try with_reducible rfl))
      | (refine wpAnyH_take (i := 35) (oi := ⟨some 98, _, _, _, _, _⟩) (v := undef) rfl (by kernel_rfl) (by kernel_rfl) (by kernel_rfl) (fun _ _ _ h => h) (Or.inr ⟨by rfl, rfl⟩) hHeld ?rrc35)
    try simp only [Act.put, List.setIfInBounds_toArray, List.set_cons_zero, List.set_cons_succ]
    try rw [e5]
    first
      | (refine wpAnyH_take (i := 36) (oi := ⟨some 4, _, _, _, _, _⟩) (v := ?vc36) rfl (by kernel_rfl) (by kernel_rfl) (by kernel_rfl) (fun _ _ _ h => h) (Or.inl ⟨by rfl, ?hyc36⟩) hHeld ?rrc36
         case hyc36 => (intro w hSw; (try dsimp only at hSw); go_simp; try with_reducible rfl))
      | (refine wpAnyH_take (i := 36) (oi := ⟨some 4, _, _, _, _, _⟩) (v := undef) rfl (by kernel_rfl) (by kernel_rfl) (by kernel_rfl) (fun _ _ _ h => h) (Or.inr ⟨by rfl, rfl⟩) hHeld ?rrc36)
    try simp only [Act.put, List.setIfInBounds_toArray, List.set_cons_zero, List.set_cons_succ]
    try rw [e5]
    refine wpAnyH_done (by kernel_rfl) ?_ _
    refine NoPanic.normal ?_
    go_wp2
    go_ret
    exact ⟨rfl, hHeld.1⟩
end Go.Proofs.YtobcecnmeepjpaaDoor

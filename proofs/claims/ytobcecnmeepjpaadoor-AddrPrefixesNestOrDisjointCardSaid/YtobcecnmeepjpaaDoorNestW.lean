/- The walk of AddrPrefixesNestOrDisjoint. -/
import Derived.Test.YtobcecnmeepjpaaDoorNestA
namespace Go.Proofs.YtobcecnmeepjpaaDoor
open Go.RowKit
set_option linter.unusedVariables false

theorem kc {W w' : World} {a : Addr} {v : Value} (hb : Below W.heap.size W w') (h : W.cell? a = some v) : w'.cell? a = some v := (hb.cell (World.block_lt_of_cell? _ _ h)).trans h
theorem ka {W : World} {a : Addr} {v : Value} (o : Obj) (h : W.cell? a = some v) : (W.alloc o).cell? a = some v := (World.cell?_alloc_some _ _ _ (by rw [h]; rfl)).trans h

theorem keep8s {w W : World} {N P Q : Nat} {a b c d : Value} (h : Below w.heap.size w W ∧ W.cell? ⟨N, 0, none⟩ = some a ∧ W.cell? ⟨N, 1, none⟩ = some b ∧ W.cell? ⟨P, 0, none⟩ = some c ∧ W.cell? ⟨P, 1, none⟩ = some d ∧ (W.cell? ⟨Q, 0, none⟩).isSome = true ∧ (W.cell? ⟨Q, 1, none⟩).isSome = true ∧ W.frozen? ⟨Q, 0, none⟩ = false ∧ W.frozen? ⟨Q, 1, none⟩ = false)
    (hN : N ≠ Q ∧ w.heap.size ≤ Q) (hP : P ≠ Q) (u v : Value) :
    Below w.heap.size w ((W.setCell ⟨Q, 0, none⟩ u).setCell ⟨Q, 1, none⟩ v) ∧ ((W.setCell ⟨Q, 0, none⟩ u).setCell ⟨Q, 1, none⟩ v).cell? ⟨N, 0, none⟩ = some a ∧ ((W.setCell ⟨Q, 0, none⟩ u).setCell ⟨Q, 1, none⟩ v).cell? ⟨N, 1, none⟩ = some b ∧ ((W.setCell ⟨Q, 0, none⟩ u).setCell ⟨Q, 1, none⟩ v).cell? ⟨P, 0, none⟩ = some c ∧ ((W.setCell ⟨Q, 0, none⟩ u).setCell ⟨Q, 1, none⟩ v).cell? ⟨P, 1, none⟩ = some d ∧
      (((W.setCell ⟨Q, 0, none⟩ u).setCell ⟨Q, 1, none⟩ v).cell? ⟨Q, 0, none⟩).isSome = true ∧ (((W.setCell ⟨Q, 0, none⟩ u).setCell ⟨Q, 1, none⟩ v).cell? ⟨Q, 1, none⟩).isSome = true ∧ ((W.setCell ⟨Q, 0, none⟩ u).setCell ⟨Q, 1, none⟩ v).frozen? ⟨Q, 0, none⟩ = false ∧ ((W.setCell ⟨Q, 0, none⟩ u).setCell ⟨Q, 1, none⟩ v).frozen? ⟨Q, 1, none⟩ = false := by
  obtain ⟨h0, h1, h2, h3, h4, h5, h6, h7, h8⟩ := h
  obtain ⟨x, hx⟩ := Option.isSome_iff_exists.1 h5
  obtain ⟨y, hy⟩ := Option.isSome_iff_exists.1 h6
  obtain ⟨g0, g1⟩ := two_sets hx hy u v
  have o : ∀ (R i : Nat), R ≠ Q → ((W.setCell ⟨Q, 0, none⟩ u).setCell ⟨Q, 1, none⟩ v).cell? ⟨R, i, none⟩ = W.cell? ⟨R, i, none⟩ := fun R i hR => (set_other (by simp <;> omega) _).trans (set_other (by simp <;> omega) _)
  exact ⟨(h0.setCell hN.2 _).setCell hN.2 _, (o N 0 hN.1).trans h1, (o N 1 hN.1).trans h2, (o P 0 hP).trans h3, (o P 1 hP).trans h4, by rw [g0]; rfl, by rw [g1]; rfl, (World.frozen?_setCell ..).trans ((World.frozen?_setCell ..).trans h7), (World.frozen?_setCell ..).trans ((World.frozen?_setCell ..).trans h8)⟩
theorem keep8 {w W w' : World} {N P Q : Nat} {a b c d : Value} (h : Below w.heap.size w W ∧ W.cell? ⟨N, 0, none⟩ = some a ∧ W.cell? ⟨N, 1, none⟩ = some b ∧ W.cell? ⟨P, 0, none⟩ = some c ∧ W.cell? ⟨P, 1, none⟩ = some d ∧ (W.cell? ⟨Q, 0, none⟩).isSome = true ∧ (W.cell? ⟨Q, 1, none⟩).isSome = true ∧ W.frozen? ⟨Q, 0, none⟩ = false ∧ W.frozen? ⟨Q, 1, none⟩ = false) (hb : Below W.heap.size W w') :
    Below w.heap.size w w' ∧ w'.cell? ⟨N, 0, none⟩ = some a ∧ w'.cell? ⟨N, 1, none⟩ = some b ∧ w'.cell? ⟨P, 0, none⟩ = some c ∧ w'.cell? ⟨P, 1, none⟩ = some d ∧ (w'.cell? ⟨Q, 0, none⟩).isSome = true ∧ (w'.cell? ⟨Q, 1, none⟩).isSome = true ∧ w'.frozen? ⟨Q, 0, none⟩ = false ∧ w'.frozen? ⟨Q, 1, none⟩ = false := by
  obtain ⟨h0, h1, h2, h3, h4, h5, h6, h7, h8⟩ := h
  obtain ⟨u, hu⟩ := Option.isSome_iff_exists.1 h5
  obtain ⟨v, hv⟩ := Option.isSome_iff_exists.1 h6
  have hl := World.block_lt_of_cell? _ _ hu
  exact ⟨h0.trans (hb.mono h0.size), kc hb h1, kc hb h2, kc hb h3, kc hb h4, by rw [kc hb hu]; rfl, by rw [kc hb hv]; rfl, (hb.frozen (p := ⟨Q, 0, none⟩) hl).trans h7, (hb.frozen (p := ⟨Q, 1, none⟩) hl).trans h8⟩

theorem keep4 {w W w' : World} {P Q : Nat} {a b c d : Value} (h : Below w.heap.size w W ∧ W.cell? ⟨P, 0, none⟩ = some a ∧ W.cell? ⟨P, 1, none⟩ = some b ∧ W.cell? ⟨Q, 0, none⟩ = some c ∧ W.cell? ⟨Q, 1, none⟩ = some d) (hb : Below W.heap.size W w') :
    Below w.heap.size w w' ∧ w'.cell? ⟨P, 0, none⟩ = some a ∧ w'.cell? ⟨P, 1, none⟩ = some b ∧ w'.cell? ⟨Q, 0, none⟩ = some c ∧ w'.cell? ⟨Q, 1, none⟩ = some d :=
  ⟨h.1.trans (hb.mono h.1.size), kc hb h.2.1, kc hb h.2.2.1, kc hb h.2.2.2.1, kc hb h.2.2.2.2⟩

set_option maxRecDepth 20000 in
set_option maxHeartbeats 8000000 in
theorem nest_ta (na nb ma mb A B C D L M k C0 D0 : Int) (t3 t4 : Bool) (w : World) (E : Env w) (hBD : B ≤ D)
    (NE : ∀ w, Hid (Calls Tryd.prog 12 #[.int .i64 na, .int .i64 nb] w fun e w' => e = .returned (.agg #[.int .i64 A, .int .i64 B]) ∧ Below w.heap.size w w'))
    (NF : ∀ w, Hid (Calls Tryd.prog 12 #[.int .i64 ma, .int .i64 mb] w fun e w' => e = .returned (.agg #[.int .i64 C0, .int .i64 D0]) ∧ Below w.heap.size w w'))
    (PK : ∀ w, Hid (Calls Tryd.prog 11 #[.int .i64 ma, .int .i64 300] w fun e w' => e = .returned (.int .i64 k) ∧ w = w'))
    (NG : ∀ w, Hid (Calls Tryd.prog 12 #[.int .i64 (A + k), .int .i64 mb] w fun e w' => e = .returned (.agg #[.int .i64 C, .int .i64 D]) ∧ Below w.heap.size w w'))
    (e1 : IntKind.i64.wrap (A + k) = A + k)
    (X1 : ∀ w, Hid (Calls Tryd.prog 24 #[.agg #[.int .i64 A, .int .i64 B], .int .i64 C] w fun e w' => e = .returned (.bool true) ∧ Below w.heap.size w w'))
    (X2 : ∀ w, Hid (Calls Tryd.prog 24 #[.agg #[.int .i64 A, .int .i64 B], .int .i64 M] w fun e w' => e = .returned (.bool true) ∧ Below w.heap.size w w'))
    (X3 : ∀ w, Hid (Calls Tryd.prog 24 #[.agg #[.int .i64 C, .int .i64 D], .int .i64 A] w fun e w' => e = .returned (.bool t3) ∧ Below w.heap.size w w'))
    (X4 : ∀ w, Hid (Calls Tryd.prog 24 #[.agg #[.int .i64 C, .int .i64 D], .int .i64 L] w fun e w' => e = .returned (.bool t4) ∧ Below w.heap.size w w'))
    (LQ : ∀ w, Hid (Calls Tryd.prog 22 #[.agg #[.int .i64 C, .int .i64 D]] w fun e w' => e = .returned (.int .i64 M) ∧ Below w.heap.size w w'))
    (LP : ∀ w, Hid (Calls Tryd.prog 22 #[.agg #[.int .i64 A, .int .i64 B]] w fun e w' => e = .returned (.int .i64 L) ∧ Below w.heap.size w w')) :
    Calls Tryd.prog 7 #[.agg #[.int .i64 na, .int .i64 nb], .agg #[.int .i64 ma, .int .i64 mb], .bool true] w fun e w' => e = .returned (.bool true) ∧ Below w.heap.size w w' := by
  have EX := fun w E => Lib.hid (ex_any w E)
  have HE := Lib.hid E
  clear E
  go_enter Tryd.func7, Tryd.ntmps7
  go_wp2_with fail
  have hb0 := ((Below.refl w.heap.size w).alloc (Nat.le_refl _) (.cells #[.int .i64 na, .int .i64 nb] 23)).alloc (by simp) (.cells #[.int .i64 ma, .int .i64 mb] 23)
  have n0 : ((w.alloc (.cells #[.int .i64 na, .int .i64 nb] 23)).alloc (.cells #[.int .i64 ma, .int .i64 mb] 23)).cell? ⟨w.heap.size, 0, none⟩ = some (.int .i64 na) := by simp
  have n1 : ((w.alloc (.cells #[.int .i64 na, .int .i64 nb] 23)).alloc (.cells #[.int .i64 ma, .int .i64 mb] 23)).cell? ⟨w.heap.size, 1, none⟩ = some (.int .i64 nb) := by simp
  have m0 : ((w.alloc (.cells #[.int .i64 na, .int .i64 nb] 23)).alloc (.cells #[.int .i64 ma, .int .i64 mb] 23)).cell? ⟨w.heap.size + 1, 0, none⟩ = some (.int .i64 ma) := by simp
  have m1 : ((w.alloc (.cells #[.int .i64 na, .int .i64 nb] 23)).alloc (.cells #[.int .i64 ma, .int .i64 mb] 23)).cell? ⟨w.heap.size + 1, 1, none⟩ = some (.int .i64 mb) := by simp
  refine (EX _ (HE.out.stay hb0)).out.mono ?_
  rintro e w1 ⟨rfl, hb1⟩
  replace n0 := kc hb1 n0
  replace n1 := kc hb1 n1
  replace m0 := kc hb1 m0
  replace m1 := kc hb1 m1
  have h1 := hb0.trans (hb1.mono hb0.size)
  clear hb0 hb1
  go_wp2_with fail
  refine (NE _).out.mono ?_
  rintro e w2 ⟨rfl, hb2⟩
  replace m0 := ka (.cells #[.int .i64 A, .int .i64 B] 23) (kc hb2 m0)
  replace m1 := ka (.cells #[.int .i64 A, .int .i64 B] 23) (kc hb2 m1)
  have h2 := (h1.trans (hb2.mono h1.size))
  have h2a := h2.alloc h2.size (.cells #[.int .i64 A, .int .i64 B] 23)
  have p0 : (w2.alloc (.cells #[.int .i64 A, .int .i64 B] 23)).cell? ⟨w2.heap.size, 0, none⟩ = some (.int .i64 A) := by simp
  have p1 : (w2.alloc (.cells #[.int .i64 A, .int .i64 B] 23)).cell? ⟨w2.heap.size, 1, none⟩ = some (.int .i64 B) := by simp
  clear n0 n1 h1 hb2 h2
  obtain ⟨P, hP⟩ : ∃ P, w2.heap.size = P := ⟨_, rfl⟩
  rw [hP] at p0 p1
  have HP := Lib.hid hP
  clear hP
  go_wp2_with fail
  rw [HP.out]
  refine (NF _).out.mono ?_
  rintro e w3 ⟨rfl, hb3⟩
  have m0' := m0
  have p0' := p0
  replace m0 := ka (.cells #[.int .i64 C0, .int .i64 D0] 23) (kc hb3 m0)
  replace m1 := ka (.cells #[.int .i64 C0, .int .i64 D0] 23) (kc hb3 m1)
  replace p0 := ka (.cells #[.int .i64 C0, .int .i64 D0] 23) (kc hb3 p0)
  replace p1 := ka (.cells #[.int .i64 C0, .int .i64 D0] 23) (kc hb3 p1)
  have h3 := (h2a.trans (hb3.mono h2a.size))
  have h3a := h3.alloc h3.size (.cells #[.int .i64 C0, .int .i64 D0] 23)
  have q0 : (w3.alloc (.cells #[.int .i64 C0, .int .i64 D0] 23)).cell? ⟨w3.heap.size, 0, none⟩ = some (.int .i64 C0) := by simp
  have q1 : (w3.alloc (.cells #[.int .i64 C0, .int .i64 D0] 23)).cell? ⟨w3.heap.size, 1, none⟩ = some (.int .i64 D0) := by simp
  have z0 : (w3.alloc (.cells #[.int .i64 C0, .int .i64 D0] 23)).frozen? ⟨w3.heap.size, 0, none⟩ = false := by simp
  have z1 : (w3.alloc (.cells #[.int .i64 C0, .int .i64 D0] 23)).frozen? ⟨w3.heap.size, 1, none⟩ = false := by simp
  have hlm := World.block_lt_of_cell? _ _ (kc hb3 m0')
  have hlp := World.block_lt_of_cell? _ _ (kc hb3 p0')
  have hPQ0 : P ≠ w3.heap.size := by simp at hlp; omega
  have hMQ0 : w.heap.size + 1 ≠ w3.heap.size := by simp at hlm; omega
  have hWQ := h3.size
  clear h2a hb3 h3 m0' p0' hlm hlp
  obtain ⟨Q, hQ⟩ : ∃ Q, w3.heap.size = Q := ⟨_, rfl⟩
  rw [hQ] at q0 q1 z0 z1 hPQ0 hMQ0 hWQ
  have hPQ : P ≠ Q ∧ w.heap.size ≤ Q := ⟨hPQ0, hWQ⟩
  have hMQ := hMQ0
  clear hPQ0 hMQ0 hWQ
  have HQ := Lib.hid hQ
  clear hQ
  obtain ⟨W3, hW3⟩ : ∃ W, w3.alloc (.cells #[.int .i64 C0, .int .i64 D0] 23) = W := ⟨_, rfl⟩
  rw [hW3] at m0 m1 p0 p1 q0 q1 z0 z1 h3a
  have HW := Lib.hid hW3
  clear hW3
  go_wp2_with fail
  rw [HQ.out, HW.out]
  clear HE EX NE NF
  have hK : Below w.heap.size w W3.drew ∧ W3.drew.cell? ⟨P, 0, none⟩ = some (.int .i64 A) ∧ W3.drew.cell? ⟨P, 1, none⟩ = some (.int .i64 B) ∧ W3.drew.cell? ⟨w.heap.size + 1, 0, none⟩ = some (.int .i64 ma) ∧ W3.drew.cell? ⟨w.heap.size + 1, 1, none⟩ = some (.int .i64 mb) ∧
      (W3.drew.cell? ⟨Q, 0, none⟩).isSome = true ∧ (W3.drew.cell? ⟨Q, 1, none⟩).isSome = true ∧ W3.drew.frozen? ⟨Q, 0, none⟩ = false ∧ W3.drew.frozen? ⟨Q, 1, none⟩ = false :=
    ⟨h3a.drew, p0, p1, m0, m1, by rw [World.cell?_drew, q0]; rfl, by rw [World.cell?_drew, q1]; rfl, z0, z1⟩
  refine wp_region_noPanic ?_
  refine wp_region_held_drew (S := fun w' => Below w.heap.size w w' ∧ w'.cell? ⟨P, 0, none⟩ = some (.int .i64 A) ∧ w'.cell? ⟨P, 1, none⟩ = some (.int .i64 B) ∧ w'.cell? ⟨w.heap.size + 1, 0, none⟩ = some (.int .i64 ma) ∧ w'.cell? ⟨w.heap.size + 1, 1, none⟩ = some (.int .i64 mb) ∧ (w'.cell? ⟨Q, 0, none⟩).isSome = true ∧ (w'.cell? ⟨Q, 1, none⟩).isSome = true ∧ w'.frozen? ⟨Q, 0, none⟩ = false ∧ w'.frozen? ⟨Q, 1, none⟩ = false) (by kernel_rfl) (hK) (fun hHeld => ?_)
  first
    | (refine wpAnyH_take (i := 0) (oi := ⟨some 28, _, _, _, _, _⟩) (v := ?va0) rfl (by kernel_rfl) (by kernel_rfl) (by kernel_rfl) (fun _ _ _ h => h) (Or.inl ⟨by rfl, ?hya0⟩) hHeld ?rra0
       case hya0 => (intro w hSw; (try dsimp only at hSw); go_simp; try with_reducible rfl))
    | (refine wpAnyH_take (i := 0) (oi := ⟨some 28, _, _, _, _, _⟩) (v := undef) rfl (by kernel_rfl) (by kernel_rfl) (by kernel_rfl) (fun _ _ _ h => h) (Or.inr ⟨by rfl, rfl⟩) hHeld ?rra0)
  try simp only [Act.put, List.setIfInBounds_toArray, List.set_cons_zero, List.set_cons_succ]
  try rw [e1]
  first
    | (refine wpAnyH_take (i := 1) (oi := ⟨some 29, _, _, _, _, _⟩) (v := ?va1) rfl (by kernel_rfl) (by kernel_rfl) (by kernel_rfl) (fun _ _ _ h => h) (Or.inl ⟨by rfl, ?hya1⟩) hHeld ?rra1
       case hya1 => (intro w hSw; (try dsimp only at hSw); go_simp; try with_reducible rfl))
    | (refine wpAnyH_take (i := 1) (oi := ⟨some 29, _, _, _, _, _⟩) (v := undef) rfl (by kernel_rfl) (by kernel_rfl) (by kernel_rfl) (fun _ _ _ h => h) (Or.inr ⟨by rfl, rfl⟩) hHeld ?rra1)
  try simp only [Act.put, List.setIfInBounds_toArray, List.set_cons_zero, List.set_cons_succ]
  try rw [e1]
  first
    | (refine wpAnyH_take (i := 2) (oi := ⟨some 30, _, _, _, _, _⟩) (v := ?va2) rfl (by kernel_rfl) (by kernel_rfl) (by kernel_rfl) (fun _ _ _ h => h) (Or.inl ⟨by rfl, ?hya2⟩) hHeld ?rra2
       case hya2 => (intro w hSw; (try dsimp only at hSw); go_simp; try with_reducible rfl))
    | (refine wpAnyH_take (i := 2) (oi := ⟨some 30, _, _, _, _, _⟩) (v := undef) rfl (by kernel_rfl) (by kernel_rfl) (by kernel_rfl) (fun _ _ _ h => h) (Or.inr ⟨by rfl, rfl⟩) hHeld ?rra2)
  try simp only [Act.put, List.setIfInBounds_toArray, List.set_cons_zero, List.set_cons_succ]
  try rw [e1]
  first
    | (refine wpAnyH_take (i := 3) (oi := ⟨some 31, _, _, _, _, _⟩) (v := ?va3) rfl (by kernel_rfl) (by kernel_rfl) (by kernel_rfl) (fun _ _ _ h => h) (Or.inl ⟨by rfl, ?hya3⟩) hHeld ?rra3
       case hya3 => (intro w hSw; (try dsimp only at hSw); go_simp; try with_reducible rfl))
    | (refine wpAnyH_take (i := 3) (oi := ⟨some 31, _, _, _, _, _⟩) (v := undef) rfl (by kernel_rfl) (by kernel_rfl) (by kernel_rfl) (fun _ _ _ h => h) (Or.inr ⟨by rfl, rfl⟩) hHeld ?rra3)
  try simp only [Act.put, List.setIfInBounds_toArray, List.set_cons_zero, List.set_cons_succ]
  try rw [e1]
  first
    | (refine wpAnyH_take (i := 6) (oi := ⟨some 34, _, _, _, _, _⟩) (v := ?va6) rfl (by kernel_rfl) (by kernel_rfl) (by kernel_rfl) (fun _ _ _ h => h) (Or.inl ⟨by rfl, ?hya6⟩) hHeld ?rra6
       case hya6 => (intro w hSw; (try dsimp only at hSw); go_simp; try with_reducible rfl))
    | (refine wpAnyH_take (i := 6) (oi := ⟨some 34, _, _, _, _, _⟩) (v := undef) rfl (by kernel_rfl) (by kernel_rfl) (by kernel_rfl) (fun _ _ _ h => h) (Or.inr ⟨by rfl, rfl⟩) hHeld ?rra6)
  try simp only [Act.put, List.setIfInBounds_toArray, List.set_cons_zero, List.set_cons_succ]
  try rw [e1]
  first
    | (refine wpAnyH_take (i := 7) (oi := ⟨some 35, _, _, _, _, _⟩) (v := ?va7) rfl (by kernel_rfl) (by kernel_rfl) (by kernel_rfl) (fun _ _ _ h => h) (Or.inl ⟨by rfl, ?hya7⟩) hHeld ?rra7
       case hya7 => (intro w hSw; (try dsimp only at hSw); go_simp; try with_reducible rfl))
    | (refine wpAnyH_take (i := 7) (oi := ⟨some 35, _, _, _, _, _⟩) (v := undef) rfl (by kernel_rfl) (by kernel_rfl) (by kernel_rfl) (fun _ _ _ h => h) (Or.inr ⟨by rfl, rfl⟩) hHeld ?rra7)
  try simp only [Act.put, List.setIfInBounds_toArray, List.set_cons_zero, List.set_cons_succ]
  try rw [e1]
  refine wpAnyH_ready (rs := [4]) (by kernel_rfl) (by simp) ?_
  refine AllReadyH.cons (o := ⟨some 32, _, _, _, _, _⟩) rfl (fun K hK => ?_) AllReadyH.nil
  go_simp
  (go_at_call 11; refine (PK _).out.mono ?_; rintro e w' ⟨rfl, rfl⟩)
  refine hK.out _ _ (hHeld) (fun hHeld2 => ?_)
  clear hK K hHeld
  have hHeld := hHeld2
  clear hHeld2
  try simp only [Act.put, List.setIfInBounds_toArray, List.set_cons_zero, List.set_cons_succ]
  try rw [e1]
  first
    | (refine wpAnyH_take (i := 5) (oi := ⟨some 33, _, _, _, _, _⟩) (v := ?va5) rfl (by kernel_rfl) (by kernel_rfl) (by kernel_rfl) (fun _ _ _ h => h) (Or.inl ⟨by rfl, ?hya5⟩) hHeld ?rra5
       case hya5 => (intro w hSw; (try dsimp only at hSw); go_simp; try with_reducible rfl))
    | (refine wpAnyH_take (i := 5) (oi := ⟨some 33, _, _, _, _, _⟩) (v := undef) rfl (by kernel_rfl) (by kernel_rfl) (by kernel_rfl) (fun _ _ _ h => h) (Or.inr ⟨by rfl, rfl⟩) hHeld ?rra5)
  try simp only [Act.put, List.setIfInBounds_toArray, List.set_cons_zero, List.set_cons_succ]
  try rw [e1]
  refine wpAnyH_ready (rs := [8]) (by kernel_rfl) (by simp) ?_
  refine AllReadyH.cons (o := ⟨some 36, _, _, _, _, _⟩) rfl (fun K hK => ?_) AllReadyH.nil
  go_simp
  (go_at_call 12; refine (NG _).out.mono ?_; rintro e w4 ⟨rfl, hb4⟩)
  refine hK.out _ _ (keep8 hHeld hb4) (fun hHeld2 => ?_)
  clear hK K hHeld
  have hHeld := hHeld2
  clear hHeld2
  try simp only [Act.put, List.setIfInBounds_toArray, List.set_cons_zero, List.set_cons_succ]
  try rw [e1]
  refine wpAnyH_ready (rs := [9]) (by kernel_rfl) (by simp) ?_
  refine AllReadyH.cons (o := ⟨none, _, _, _, _, _⟩) rfl (fun K hK => ?_) AllReadyH.nil
  have hBefore := hHeld
  obtain ⟨-, -, -, -, -, hs0, hs1, hf0, hf1⟩ := id hHeld
  obtain ⟨u0, hu0⟩ := Option.isSome_iff_exists.1 hs0
  obtain ⟨u1, hu1⟩ := Option.isSome_iff_exists.1 hs1
  go_simp
  refine hK.out _ _ (keep8s hHeld hPQ hMQ _ _) (fun hHeld2 => ?_)
  clear hK K hHeld
  have hHeld := hHeld2
  clear hHeld2
  try simp only [Act.put, List.setIfInBounds_toArray, List.set_cons_zero, List.set_cons_succ]
  try rw [e1]
  refine wpAnyH_done (by kernel_rfl) ?_ _
  refine NoPanic.normal ?_
  obtain ⟨g0, g1⟩ := two_sets hu0 hu1 (.int .i64 C) (.int .i64 D)
  obtain ⟨hT, p0, p1, -, -, -, -, -, -⟩ := hHeld
  clear hBefore hs0 hs1 hf0 hf1 hu0 hu1 hK h3a q0 q1 z0 z1 m0 m1 PK NG e1
  have q0 := g0
  have q1 := g1
  clear g0 g1
  obtain ⟨W5, hW5⟩ : ∃ W, (w4.setCell ⟨Q, 0, none⟩ (.int .i64 C)).setCell ⟨Q, 1, none⟩ (.int .i64 D) = W := ⟨_, rfl⟩
  rw [hW5] at hT p0 p1 q0 q1
  rw [hW5]
  clear hW5
  go_wp2_with fail
  refine (X1 _).out.mono ?_
  rintro e v0 ⟨rfl, hv0⟩
  replace p0 := kc hv0 p0
  replace p1 := kc hv0 p1
  replace q0 := kc hv0 q0
  replace q1 := kc hv0 q1
  replace hT := hT.trans (hv0.mono hT.size)
  clear hv0
  go_wp2_with fail
  refine wp_region_noPanic ?_
  refine wp_region_held_drew (S := fun w' => Below w.heap.size w w' ∧ w'.cell? ⟨P, 0, none⟩ = some (.int .i64 A) ∧ w'.cell? ⟨P, 1, none⟩ = some (.int .i64 B) ∧ w'.cell? ⟨Q, 0, none⟩ = some (.int .i64 C) ∧ w'.cell? ⟨Q, 1, none⟩ = some (.int .i64 D)) (by kernel_rfl) (⟨hT.drew, p0, p1, q0, q1⟩) (fun hHeld => ?_)
  first
    | (refine wpAnyH_take (i := 0) (oi := ⟨some 41, _, _, _, _, _⟩) (v := ?vr0) rfl (by kernel_rfl) (by kernel_rfl) (by kernel_rfl) (fun _ _ _ h => h) (Or.inl ⟨by rfl, ?hyr0⟩) hHeld ?rrr0
       case hyr0 => (intro w hSw; (try dsimp only at hSw); go_simp; try with_reducible rfl))
    | (refine wpAnyH_take (i := 0) (oi := ⟨some 41, _, _, _, _, _⟩) (v := undef) rfl (by kernel_rfl) (by kernel_rfl) (by kernel_rfl) (fun _ _ _ h => h) (Or.inr ⟨by rfl, rfl⟩) hHeld ?rrr0)
  try simp only [Act.put, List.setIfInBounds_toArray, List.set_cons_zero, List.set_cons_succ]
  first
    | (refine wpAnyH_take (i := 1) (oi := ⟨some 42, _, _, _, _, _⟩) (v := ?vr1) rfl (by kernel_rfl) (by kernel_rfl) (by kernel_rfl) (fun _ _ _ h => h) (Or.inl ⟨by rfl, ?hyr1⟩) hHeld ?rrr1
       case hyr1 => (intro w hSw; (try dsimp only at hSw); go_simp; try with_reducible rfl))
    | (refine wpAnyH_take (i := 1) (oi := ⟨some 42, _, _, _, _, _⟩) (v := undef) rfl (by kernel_rfl) (by kernel_rfl) (by kernel_rfl) (fun _ _ _ h => h) (Or.inr ⟨by rfl, rfl⟩) hHeld ?rrr1)
  try simp only [Act.put, List.setIfInBounds_toArray, List.set_cons_zero, List.set_cons_succ]
  refine wpAnyH_ready (rs := [2]) (by kernel_rfl) (by simp) ?_
  refine AllReadyH.cons (o := ⟨some 43, _, _, _, _, _⟩) rfl (fun K hK => ?_) AllReadyH.nil
  go_simp
  (go_at_call 22; refine (LQ _).out.mono ?_; rintro e w6 ⟨rfl, hb6⟩)
  refine hK.out _ _ (keep4 hHeld hb6) (fun hHeld2 => ?_)
  clear hK K hHeld
  have hHeld := hHeld2
  clear hHeld2
  try simp only [Act.put, List.setIfInBounds_toArray, List.set_cons_zero, List.set_cons_succ]
  refine wpAnyH_ready (rs := [3]) (by kernel_rfl) (by simp) ?_
  refine AllReadyH.cons (o := ⟨some 44, _, _, _, _, _⟩) rfl (fun K hK => ?_) AllReadyH.nil
  go_simp
  (go_at_call 24; refine (X2 _).out.mono ?_; rintro e w7 ⟨rfl, hb7⟩)
  refine hK.out _ _ (keep4 hHeld hb7) (fun hHeld2 => ?_)
  clear hK K hHeld
  have hHeld := hHeld2
  clear hHeld2
  try simp only [Act.put, List.setIfInBounds_toArray, List.set_cons_zero, List.set_cons_succ]
  first
    | (refine wpAnyH_take (i := 4) (oi := ⟨some 11, _, _, _, _, _⟩) (v := ?vr4) rfl (by kernel_rfl) (by kernel_rfl) (by kernel_rfl) (fun _ _ _ h => h) (Or.inl ⟨by rfl, ?hyr4⟩) hHeld ?rrr4
       case hyr4 => (intro w hSw; (try dsimp only at hSw); go_simp; try with_reducible rfl))
    | (refine wpAnyH_take (i := 4) (oi := ⟨some 11, _, _, _, _, _⟩) (v := undef) rfl (by kernel_rfl) (by kernel_rfl) (by kernel_rfl) (fun _ _ _ h => h) (Or.inr ⟨by rfl, rfl⟩) hHeld ?rrr4)
  try simp only [Act.put, List.setIfInBounds_toArray, List.set_cons_zero, List.set_cons_succ]
  refine wpAnyH_done (by kernel_rfl) ?_ _
  refine NoPanic.normal ?_
  clear hb6 hb7 hT p0 p1 q0 q1
  obtain ⟨hT, p0, p1, q0, q1⟩ := hHeld
  go_wp2_with fail
  refine (X3 _).out.mono ?_
  rintro e v1 ⟨rfl, hv1⟩
  replace p0 := kc hv1 p0
  replace p1 := kc hv1 p1
  replace q0 := kc hv1 q0
  replace q1 := kc hv1 q1
  replace hT := hT.trans (hv1.mono hT.size)
  clear hv1
  go_wp2_with fail
  refine wp_region_noPanic ?_
  refine wp_region_held_drew (S := fun w' => Below w.heap.size w w' ∧ w'.cell? ⟨P, 0, none⟩ = some (.int .i64 A) ∧ w'.cell? ⟨P, 1, none⟩ = some (.int .i64 B) ∧ w'.cell? ⟨Q, 0, none⟩ = some (.int .i64 C) ∧ w'.cell? ⟨Q, 1, none⟩ = some (.int .i64 D)) (by kernel_rfl) (⟨hT.drew, p0, p1, q0, q1⟩) (fun hHeld => ?_)
  first
    | (refine wpAnyH_take (i := 0) (oi := ⟨some 49, _, _, _, _, _⟩) (v := ?vs0) rfl (by kernel_rfl) (by kernel_rfl) (by kernel_rfl) (fun _ _ _ h => h) (Or.inl ⟨by rfl, ?hys0⟩) hHeld ?rrs0
       case hys0 => (intro w hSw; (try dsimp only at hSw); go_simp; try with_reducible rfl))
    | (refine wpAnyH_take (i := 0) (oi := ⟨some 49, _, _, _, _, _⟩) (v := undef) rfl (by kernel_rfl) (by kernel_rfl) (by kernel_rfl) (fun _ _ _ h => h) (Or.inr ⟨by rfl, rfl⟩) hHeld ?rrs0)
  try simp only [Act.put, List.setIfInBounds_toArray, List.set_cons_zero, List.set_cons_succ]
  first
    | (refine wpAnyH_take (i := 1) (oi := ⟨some 50, _, _, _, _, _⟩) (v := ?vs1) rfl (by kernel_rfl) (by kernel_rfl) (by kernel_rfl) (fun _ _ _ h => h) (Or.inl ⟨by rfl, ?hys1⟩) hHeld ?rrs1
       case hys1 => (intro w hSw; (try dsimp only at hSw); go_simp; try with_reducible rfl))
    | (refine wpAnyH_take (i := 1) (oi := ⟨some 50, _, _, _, _, _⟩) (v := undef) rfl (by kernel_rfl) (by kernel_rfl) (by kernel_rfl) (fun _ _ _ h => h) (Or.inr ⟨by rfl, rfl⟩) hHeld ?rrs1)
  try simp only [Act.put, List.setIfInBounds_toArray, List.set_cons_zero, List.set_cons_succ]
  refine wpAnyH_ready (rs := [2]) (by kernel_rfl) (by simp) ?_
  refine AllReadyH.cons (o := ⟨some 51, _, _, _, _, _⟩) rfl (fun K hK => ?_) AllReadyH.nil
  go_simp
  (go_at_call 22; refine (LP _).out.mono ?_; rintro e w6 ⟨rfl, hb6⟩)
  refine hK.out _ _ (keep4 hHeld hb6) (fun hHeld2 => ?_)
  clear hK K hHeld
  have hHeld := hHeld2
  clear hHeld2
  try simp only [Act.put, List.setIfInBounds_toArray, List.set_cons_zero, List.set_cons_succ]
  refine wpAnyH_ready (rs := [3]) (by kernel_rfl) (by simp) ?_
  refine AllReadyH.cons (o := ⟨some 52, _, _, _, _, _⟩) rfl (fun K hK => ?_) AllReadyH.nil
  go_simp
  (go_at_call 24; refine (X4 _).out.mono ?_; rintro e w7 ⟨rfl, hb7⟩)
  refine hK.out _ _ (keep4 hHeld hb7) (fun hHeld2 => ?_)
  clear hK K hHeld
  have hHeld := hHeld2
  clear hHeld2
  try simp only [Act.put, List.setIfInBounds_toArray, List.set_cons_zero, List.set_cons_succ]
  first
    | (refine wpAnyH_take (i := 4) (oi := ⟨some 13, _, _, _, _, _⟩) (v := ?vs4) rfl (by kernel_rfl) (by kernel_rfl) (by kernel_rfl) (fun _ _ _ h => h) (Or.inl ⟨by rfl, ?hys4⟩) hHeld ?rrs4
       case hys4 => (intro w hSw; (try dsimp only at hSw); go_simp; try with_reducible rfl))
    | (refine wpAnyH_take (i := 4) (oi := ⟨some 13, _, _, _, _, _⟩) (v := undef) rfl (by kernel_rfl) (by kernel_rfl) (by kernel_rfl) (fun _ _ _ h => h) (Or.inr ⟨by rfl, rfl⟩) hHeld ?rrs4)
  try simp only [Act.put, List.setIfInBounds_toArray, List.set_cons_zero, List.set_cons_succ]
  refine wpAnyH_done (by kernel_rfl) ?_ _
  refine NoPanic.normal ?_
  clear hb6 hb7 hT p0 p1 q0 q1
  obtain ⟨hT, p0, p1, q0, q1⟩ := hHeld
  go_wp2_with fail
  go_ret
  exact ⟨rfl, hT⟩

set_option maxRecDepth 20000 in
set_option maxHeartbeats 8000000 in
theorem nest_tb (na nb ma mb A B C D L M k C0 D0 : Int) (w : World) (E : Env w) (hBD : B ≤ D)
    (NE : ∀ w, Hid (Calls Tryd.prog 12 #[.int .i64 na, .int .i64 nb] w fun e w' => e = .returned (.agg #[.int .i64 A, .int .i64 B]) ∧ Below w.heap.size w w'))
    (NF : ∀ w, Hid (Calls Tryd.prog 12 #[.int .i64 ma, .int .i64 mb] w fun e w' => e = .returned (.agg #[.int .i64 C0, .int .i64 D0]) ∧ Below w.heap.size w w'))
    (PK : ∀ w, Hid (Calls Tryd.prog 11 #[.int .i64 ma, .int .i64 300] w fun e w' => e = .returned (.int .i64 k) ∧ w = w'))
    (NG : ∀ w, Hid (Calls Tryd.prog 12 #[.int .i64 (A + k), .int .i64 mb] w fun e w' => e = .returned (.agg #[.int .i64 C, .int .i64 D]) ∧ Below w.heap.size w w'))
    (e1 : IntKind.i64.wrap (A + k) = A + k)
    (X1 : ∀ w, Hid (Calls Tryd.prog 24 #[.agg #[.int .i64 A, .int .i64 B], .int .i64 C] w fun e w' => e = .returned (.bool false) ∧ Below w.heap.size w w'))
    (X2 : ∀ w, Hid (Calls Tryd.prog 24 #[.agg #[.int .i64 A, .int .i64 B], .int .i64 M] w fun e w' => e = .returned (.bool false) ∧ Below w.heap.size w w'))
    (X3 : ∀ w, Hid (Calls Tryd.prog 24 #[.agg #[.int .i64 C, .int .i64 D], .int .i64 A] w fun e w' => e = .returned (.bool false) ∧ Below w.heap.size w w'))
    (X4 : ∀ w, Hid (Calls Tryd.prog 24 #[.agg #[.int .i64 C, .int .i64 D], .int .i64 L] w fun e w' => e = .returned (.bool false) ∧ Below w.heap.size w w'))
    (LQ : ∀ w, Hid (Calls Tryd.prog 22 #[.agg #[.int .i64 C, .int .i64 D]] w fun e w' => e = .returned (.int .i64 M) ∧ Below w.heap.size w w'))
    (LP : ∀ w, Hid (Calls Tryd.prog 22 #[.agg #[.int .i64 A, .int .i64 B]] w fun e w' => e = .returned (.int .i64 L) ∧ Below w.heap.size w w')) :
    Calls Tryd.prog 7 #[.agg #[.int .i64 na, .int .i64 nb], .agg #[.int .i64 ma, .int .i64 mb], .bool true] w fun e w' => e = .returned (.bool true) ∧ Below w.heap.size w w' := by
  have EX := fun w E => Lib.hid (ex_any w E)
  have HE := Lib.hid E
  clear E
  go_enter Tryd.func7, Tryd.ntmps7
  go_wp2_with fail
  have hb0 := ((Below.refl w.heap.size w).alloc (Nat.le_refl _) (.cells #[.int .i64 na, .int .i64 nb] 23)).alloc (by simp) (.cells #[.int .i64 ma, .int .i64 mb] 23)
  have n0 : ((w.alloc (.cells #[.int .i64 na, .int .i64 nb] 23)).alloc (.cells #[.int .i64 ma, .int .i64 mb] 23)).cell? ⟨w.heap.size, 0, none⟩ = some (.int .i64 na) := by simp
  have n1 : ((w.alloc (.cells #[.int .i64 na, .int .i64 nb] 23)).alloc (.cells #[.int .i64 ma, .int .i64 mb] 23)).cell? ⟨w.heap.size, 1, none⟩ = some (.int .i64 nb) := by simp
  have m0 : ((w.alloc (.cells #[.int .i64 na, .int .i64 nb] 23)).alloc (.cells #[.int .i64 ma, .int .i64 mb] 23)).cell? ⟨w.heap.size + 1, 0, none⟩ = some (.int .i64 ma) := by simp
  have m1 : ((w.alloc (.cells #[.int .i64 na, .int .i64 nb] 23)).alloc (.cells #[.int .i64 ma, .int .i64 mb] 23)).cell? ⟨w.heap.size + 1, 1, none⟩ = some (.int .i64 mb) := by simp
  refine (EX _ (HE.out.stay hb0)).out.mono ?_
  rintro e w1 ⟨rfl, hb1⟩
  replace n0 := kc hb1 n0
  replace n1 := kc hb1 n1
  replace m0 := kc hb1 m0
  replace m1 := kc hb1 m1
  have h1 := hb0.trans (hb1.mono hb0.size)
  clear hb0 hb1
  go_wp2_with fail
  refine (NE _).out.mono ?_
  rintro e w2 ⟨rfl, hb2⟩
  replace m0 := ka (.cells #[.int .i64 A, .int .i64 B] 23) (kc hb2 m0)
  replace m1 := ka (.cells #[.int .i64 A, .int .i64 B] 23) (kc hb2 m1)
  have h2 := (h1.trans (hb2.mono h1.size))
  have h2a := h2.alloc h2.size (.cells #[.int .i64 A, .int .i64 B] 23)
  have p0 : (w2.alloc (.cells #[.int .i64 A, .int .i64 B] 23)).cell? ⟨w2.heap.size, 0, none⟩ = some (.int .i64 A) := by simp
  have p1 : (w2.alloc (.cells #[.int .i64 A, .int .i64 B] 23)).cell? ⟨w2.heap.size, 1, none⟩ = some (.int .i64 B) := by simp
  clear n0 n1 h1 hb2 h2
  obtain ⟨P, hP⟩ : ∃ P, w2.heap.size = P := ⟨_, rfl⟩
  rw [hP] at p0 p1
  have HP := Lib.hid hP
  clear hP
  go_wp2_with fail
  rw [HP.out]
  refine (NF _).out.mono ?_
  rintro e w3 ⟨rfl, hb3⟩
  have m0' := m0
  have p0' := p0
  replace m0 := ka (.cells #[.int .i64 C0, .int .i64 D0] 23) (kc hb3 m0)
  replace m1 := ka (.cells #[.int .i64 C0, .int .i64 D0] 23) (kc hb3 m1)
  replace p0 := ka (.cells #[.int .i64 C0, .int .i64 D0] 23) (kc hb3 p0)
  replace p1 := ka (.cells #[.int .i64 C0, .int .i64 D0] 23) (kc hb3 p1)
  have h3 := (h2a.trans (hb3.mono h2a.size))
  have h3a := h3.alloc h3.size (.cells #[.int .i64 C0, .int .i64 D0] 23)
  have q0 : (w3.alloc (.cells #[.int .i64 C0, .int .i64 D0] 23)).cell? ⟨w3.heap.size, 0, none⟩ = some (.int .i64 C0) := by simp
  have q1 : (w3.alloc (.cells #[.int .i64 C0, .int .i64 D0] 23)).cell? ⟨w3.heap.size, 1, none⟩ = some (.int .i64 D0) := by simp
  have z0 : (w3.alloc (.cells #[.int .i64 C0, .int .i64 D0] 23)).frozen? ⟨w3.heap.size, 0, none⟩ = false := by simp
  have z1 : (w3.alloc (.cells #[.int .i64 C0, .int .i64 D0] 23)).frozen? ⟨w3.heap.size, 1, none⟩ = false := by simp
  have hlm := World.block_lt_of_cell? _ _ (kc hb3 m0')
  have hlp := World.block_lt_of_cell? _ _ (kc hb3 p0')
  have hPQ0 : P ≠ w3.heap.size := by simp at hlp; omega
  have hMQ0 : w.heap.size + 1 ≠ w3.heap.size := by simp at hlm; omega
  have hWQ := h3.size
  clear h2a hb3 h3 m0' p0' hlm hlp
  obtain ⟨Q, hQ⟩ : ∃ Q, w3.heap.size = Q := ⟨_, rfl⟩
  rw [hQ] at q0 q1 z0 z1 hPQ0 hMQ0 hWQ
  have hPQ : P ≠ Q ∧ w.heap.size ≤ Q := ⟨hPQ0, hWQ⟩
  have hMQ := hMQ0
  clear hPQ0 hMQ0 hWQ
  have HQ := Lib.hid hQ
  clear hQ
  obtain ⟨W3, hW3⟩ : ∃ W, w3.alloc (.cells #[.int .i64 C0, .int .i64 D0] 23) = W := ⟨_, rfl⟩
  rw [hW3] at m0 m1 p0 p1 q0 q1 z0 z1 h3a
  have HW := Lib.hid hW3
  clear hW3
  go_wp2_with fail
  rw [HQ.out, HW.out]
  clear HE EX NE NF
  have hK : Below w.heap.size w W3.drew ∧ W3.drew.cell? ⟨P, 0, none⟩ = some (.int .i64 A) ∧ W3.drew.cell? ⟨P, 1, none⟩ = some (.int .i64 B) ∧ W3.drew.cell? ⟨w.heap.size + 1, 0, none⟩ = some (.int .i64 ma) ∧ W3.drew.cell? ⟨w.heap.size + 1, 1, none⟩ = some (.int .i64 mb) ∧
      (W3.drew.cell? ⟨Q, 0, none⟩).isSome = true ∧ (W3.drew.cell? ⟨Q, 1, none⟩).isSome = true ∧ W3.drew.frozen? ⟨Q, 0, none⟩ = false ∧ W3.drew.frozen? ⟨Q, 1, none⟩ = false :=
    ⟨h3a.drew, p0, p1, m0, m1, by rw [World.cell?_drew, q0]; rfl, by rw [World.cell?_drew, q1]; rfl, z0, z1⟩
  refine wp_region_noPanic ?_
  refine wp_region_held_drew (S := fun w' => Below w.heap.size w w' ∧ w'.cell? ⟨P, 0, none⟩ = some (.int .i64 A) ∧ w'.cell? ⟨P, 1, none⟩ = some (.int .i64 B) ∧ w'.cell? ⟨w.heap.size + 1, 0, none⟩ = some (.int .i64 ma) ∧ w'.cell? ⟨w.heap.size + 1, 1, none⟩ = some (.int .i64 mb) ∧ (w'.cell? ⟨Q, 0, none⟩).isSome = true ∧ (w'.cell? ⟨Q, 1, none⟩).isSome = true ∧ w'.frozen? ⟨Q, 0, none⟩ = false ∧ w'.frozen? ⟨Q, 1, none⟩ = false) (by kernel_rfl) (hK) (fun hHeld => ?_)
  first
    | (refine wpAnyH_take (i := 0) (oi := ⟨some 28, _, _, _, _, _⟩) (v := ?va0) rfl (by kernel_rfl) (by kernel_rfl) (by kernel_rfl) (fun _ _ _ h => h) (Or.inl ⟨by rfl, ?hya0⟩) hHeld ?rra0
       case hya0 => (intro w hSw; (try dsimp only at hSw); go_simp; try with_reducible rfl))
    | (refine wpAnyH_take (i := 0) (oi := ⟨some 28, _, _, _, _, _⟩) (v := undef) rfl (by kernel_rfl) (by kernel_rfl) (by kernel_rfl) (fun _ _ _ h => h) (Or.inr ⟨by rfl, rfl⟩) hHeld ?rra0)
  try simp only [Act.put, List.setIfInBounds_toArray, List.set_cons_zero, List.set_cons_succ]
  try rw [e1]
  first
    | (refine wpAnyH_take (i := 1) (oi := ⟨some 29, _, _, _, _, _⟩) (v := ?va1) rfl (by kernel_rfl) (by kernel_rfl) (by kernel_rfl) (fun _ _ _ h => h) (Or.inl ⟨by rfl, ?hya1⟩) hHeld ?rra1
       case hya1 => (intro w hSw; (try dsimp only at hSw); go_simp; try with_reducible rfl))
    | (refine wpAnyH_take (i := 1) (oi := ⟨some 29, _, _, _, _, _⟩) (v := undef) rfl (by kernel_rfl) (by kernel_rfl) (by kernel_rfl) (fun _ _ _ h => h) (Or.inr ⟨by rfl, rfl⟩) hHeld ?rra1)
  try simp only [Act.put, List.setIfInBounds_toArray, List.set_cons_zero, List.set_cons_succ]
  try rw [e1]
  first
    | (refine wpAnyH_take (i := 2) (oi := ⟨some 30, _, _, _, _, _⟩) (v := ?va2) rfl (by kernel_rfl) (by kernel_rfl) (by kernel_rfl) (fun _ _ _ h => h) (Or.inl ⟨by rfl, ?hya2⟩) hHeld ?rra2
       case hya2 => (intro w hSw; (try dsimp only at hSw); go_simp; try with_reducible rfl))
    | (refine wpAnyH_take (i := 2) (oi := ⟨some 30, _, _, _, _, _⟩) (v := undef) rfl (by kernel_rfl) (by kernel_rfl) (by kernel_rfl) (fun _ _ _ h => h) (Or.inr ⟨by rfl, rfl⟩) hHeld ?rra2)
  try simp only [Act.put, List.setIfInBounds_toArray, List.set_cons_zero, List.set_cons_succ]
  try rw [e1]
  first
    | (refine wpAnyH_take (i := 3) (oi := ⟨some 31, _, _, _, _, _⟩) (v := ?va3) rfl (by kernel_rfl) (by kernel_rfl) (by kernel_rfl) (fun _ _ _ h => h) (Or.inl ⟨by rfl, ?hya3⟩) hHeld ?rra3
       case hya3 => (intro w hSw; (try dsimp only at hSw); go_simp; try with_reducible rfl))
    | (refine wpAnyH_take (i := 3) (oi := ⟨some 31, _, _, _, _, _⟩) (v := undef) rfl (by kernel_rfl) (by kernel_rfl) (by kernel_rfl) (fun _ _ _ h => h) (Or.inr ⟨by rfl, rfl⟩) hHeld ?rra3)
  try simp only [Act.put, List.setIfInBounds_toArray, List.set_cons_zero, List.set_cons_succ]
  try rw [e1]
  first
    | (refine wpAnyH_take (i := 6) (oi := ⟨some 34, _, _, _, _, _⟩) (v := ?va6) rfl (by kernel_rfl) (by kernel_rfl) (by kernel_rfl) (fun _ _ _ h => h) (Or.inl ⟨by rfl, ?hya6⟩) hHeld ?rra6
       case hya6 => (intro w hSw; (try dsimp only at hSw); go_simp; try with_reducible rfl))
    | (refine wpAnyH_take (i := 6) (oi := ⟨some 34, _, _, _, _, _⟩) (v := undef) rfl (by kernel_rfl) (by kernel_rfl) (by kernel_rfl) (fun _ _ _ h => h) (Or.inr ⟨by rfl, rfl⟩) hHeld ?rra6)
  try simp only [Act.put, List.setIfInBounds_toArray, List.set_cons_zero, List.set_cons_succ]
  try rw [e1]
  first
    | (refine wpAnyH_take (i := 7) (oi := ⟨some 35, _, _, _, _, _⟩) (v := ?va7) rfl (by kernel_rfl) (by kernel_rfl) (by kernel_rfl) (fun _ _ _ h => h) (Or.inl ⟨by rfl, ?hya7⟩) hHeld ?rra7
       case hya7 => (intro w hSw; (try dsimp only at hSw); go_simp; try with_reducible rfl))
    | (refine wpAnyH_take (i := 7) (oi := ⟨some 35, _, _, _, _, _⟩) (v := undef) rfl (by kernel_rfl) (by kernel_rfl) (by kernel_rfl) (fun _ _ _ h => h) (Or.inr ⟨by rfl, rfl⟩) hHeld ?rra7)
  try simp only [Act.put, List.setIfInBounds_toArray, List.set_cons_zero, List.set_cons_succ]
  try rw [e1]
  refine wpAnyH_ready (rs := [4]) (by kernel_rfl) (by simp) ?_
  refine AllReadyH.cons (o := ⟨some 32, _, _, _, _, _⟩) rfl (fun K hK => ?_) AllReadyH.nil
  go_simp
  (go_at_call 11; refine (PK _).out.mono ?_; rintro e w' ⟨rfl, rfl⟩)
  refine hK.out _ _ (hHeld) (fun hHeld2 => ?_)
  clear hK K hHeld
  have hHeld := hHeld2
  clear hHeld2
  try simp only [Act.put, List.setIfInBounds_toArray, List.set_cons_zero, List.set_cons_succ]
  try rw [e1]
  first
    | (refine wpAnyH_take (i := 5) (oi := ⟨some 33, _, _, _, _, _⟩) (v := ?va5) rfl (by kernel_rfl) (by kernel_rfl) (by kernel_rfl) (fun _ _ _ h => h) (Or.inl ⟨by rfl, ?hya5⟩) hHeld ?rra5
       case hya5 => (intro w hSw; (try dsimp only at hSw); go_simp; try with_reducible rfl))
    | (refine wpAnyH_take (i := 5) (oi := ⟨some 33, _, _, _, _, _⟩) (v := undef) rfl (by kernel_rfl) (by kernel_rfl) (by kernel_rfl) (fun _ _ _ h => h) (Or.inr ⟨by rfl, rfl⟩) hHeld ?rra5)
  try simp only [Act.put, List.setIfInBounds_toArray, List.set_cons_zero, List.set_cons_succ]
  try rw [e1]
  refine wpAnyH_ready (rs := [8]) (by kernel_rfl) (by simp) ?_
  refine AllReadyH.cons (o := ⟨some 36, _, _, _, _, _⟩) rfl (fun K hK => ?_) AllReadyH.nil
  go_simp
  (go_at_call 12; refine (NG _).out.mono ?_; rintro e w4 ⟨rfl, hb4⟩)
  refine hK.out _ _ (keep8 hHeld hb4) (fun hHeld2 => ?_)
  clear hK K hHeld
  have hHeld := hHeld2
  clear hHeld2
  try simp only [Act.put, List.setIfInBounds_toArray, List.set_cons_zero, List.set_cons_succ]
  try rw [e1]
  refine wpAnyH_ready (rs := [9]) (by kernel_rfl) (by simp) ?_
  refine AllReadyH.cons (o := ⟨none, _, _, _, _, _⟩) rfl (fun K hK => ?_) AllReadyH.nil
  have hBefore := hHeld
  obtain ⟨-, -, -, -, -, hs0, hs1, hf0, hf1⟩ := id hHeld
  obtain ⟨u0, hu0⟩ := Option.isSome_iff_exists.1 hs0
  obtain ⟨u1, hu1⟩ := Option.isSome_iff_exists.1 hs1
  go_simp
  refine hK.out _ _ (keep8s hHeld hPQ hMQ _ _) (fun hHeld2 => ?_)
  clear hK K hHeld
  have hHeld := hHeld2
  clear hHeld2
  try simp only [Act.put, List.setIfInBounds_toArray, List.set_cons_zero, List.set_cons_succ]
  try rw [e1]
  refine wpAnyH_done (by kernel_rfl) ?_ _
  refine NoPanic.normal ?_
  obtain ⟨g0, g1⟩ := two_sets hu0 hu1 (.int .i64 C) (.int .i64 D)
  obtain ⟨hT, p0, p1, -, -, -, -, -, -⟩ := hHeld
  clear hBefore hs0 hs1 hf0 hf1 hu0 hu1 hK h3a q0 q1 z0 z1 m0 m1 PK NG e1
  have q0 := g0
  have q1 := g1
  clear g0 g1
  obtain ⟨W5, hW5⟩ : ∃ W, (w4.setCell ⟨Q, 0, none⟩ (.int .i64 C)).setCell ⟨Q, 1, none⟩ (.int .i64 D) = W := ⟨_, rfl⟩
  rw [hW5] at hT p0 p1 q0 q1
  rw [hW5]
  clear hW5
  go_wp2_with fail
  refine (X1 _).out.mono ?_
  rintro e v0 ⟨rfl, hv0⟩
  replace p0 := kc hv0 p0
  replace p1 := kc hv0 p1
  replace q0 := kc hv0 q0
  replace q1 := kc hv0 q1
  replace hT := hT.trans (hv0.mono hT.size)
  clear hv0
  go_wp2_with fail
  refine wp_region_noPanic ?_
  refine wp_region_held_drew (S := fun w' => Below w.heap.size w w' ∧ w'.cell? ⟨P, 0, none⟩ = some (.int .i64 A) ∧ w'.cell? ⟨P, 1, none⟩ = some (.int .i64 B) ∧ w'.cell? ⟨Q, 0, none⟩ = some (.int .i64 C) ∧ w'.cell? ⟨Q, 1, none⟩ = some (.int .i64 D)) (by kernel_rfl) (⟨hT.drew, p0, p1, q0, q1⟩) (fun hHeld => ?_)
  first
    | (refine wpAnyH_take (i := 0) (oi := ⟨some 41, _, _, _, _, _⟩) (v := ?vr0) rfl (by kernel_rfl) (by kernel_rfl) (by kernel_rfl) (fun _ _ _ h => h) (Or.inl ⟨by rfl, ?hyr0⟩) hHeld ?rrr0
       case hyr0 => (intro w hSw; (try dsimp only at hSw); go_simp; try with_reducible rfl))
    | (refine wpAnyH_take (i := 0) (oi := ⟨some 41, _, _, _, _, _⟩) (v := undef) rfl (by kernel_rfl) (by kernel_rfl) (by kernel_rfl) (fun _ _ _ h => h) (Or.inr ⟨by rfl, rfl⟩) hHeld ?rrr0)
  try simp only [Act.put, List.setIfInBounds_toArray, List.set_cons_zero, List.set_cons_succ]
  first
    | (refine wpAnyH_take (i := 1) (oi := ⟨some 42, _, _, _, _, _⟩) (v := ?vr1) rfl (by kernel_rfl) (by kernel_rfl) (by kernel_rfl) (fun _ _ _ h => h) (Or.inl ⟨by rfl, ?hyr1⟩) hHeld ?rrr1
       case hyr1 => (intro w hSw; (try dsimp only at hSw); go_simp; try with_reducible rfl))
    | (refine wpAnyH_take (i := 1) (oi := ⟨some 42, _, _, _, _, _⟩) (v := undef) rfl (by kernel_rfl) (by kernel_rfl) (by kernel_rfl) (fun _ _ _ h => h) (Or.inr ⟨by rfl, rfl⟩) hHeld ?rrr1)
  try simp only [Act.put, List.setIfInBounds_toArray, List.set_cons_zero, List.set_cons_succ]
  refine wpAnyH_ready (rs := [2]) (by kernel_rfl) (by simp) ?_
  refine AllReadyH.cons (o := ⟨some 43, _, _, _, _, _⟩) rfl (fun K hK => ?_) AllReadyH.nil
  go_simp
  (go_at_call 22; refine (LQ _).out.mono ?_; rintro e w6 ⟨rfl, hb6⟩)
  refine hK.out _ _ (keep4 hHeld hb6) (fun hHeld2 => ?_)
  clear hK K hHeld
  have hHeld := hHeld2
  clear hHeld2
  try simp only [Act.put, List.setIfInBounds_toArray, List.set_cons_zero, List.set_cons_succ]
  refine wpAnyH_ready (rs := [3]) (by kernel_rfl) (by simp) ?_
  refine AllReadyH.cons (o := ⟨some 44, _, _, _, _, _⟩) rfl (fun K hK => ?_) AllReadyH.nil
  go_simp
  (go_at_call 24; refine (X2 _).out.mono ?_; rintro e w7 ⟨rfl, hb7⟩)
  refine hK.out _ _ (keep4 hHeld hb7) (fun hHeld2 => ?_)
  clear hK K hHeld
  have hHeld := hHeld2
  clear hHeld2
  try simp only [Act.put, List.setIfInBounds_toArray, List.set_cons_zero, List.set_cons_succ]
  first
    | (refine wpAnyH_take (i := 4) (oi := ⟨some 11, _, _, _, _, _⟩) (v := ?vr4) rfl (by kernel_rfl) (by kernel_rfl) (by kernel_rfl) (fun _ _ _ h => h) (Or.inl ⟨by rfl, ?hyr4⟩) hHeld ?rrr4
       case hyr4 => (intro w hSw; (try dsimp only at hSw); go_simp; try with_reducible rfl))
    | (refine wpAnyH_take (i := 4) (oi := ⟨some 11, _, _, _, _, _⟩) (v := undef) rfl (by kernel_rfl) (by kernel_rfl) (by kernel_rfl) (fun _ _ _ h => h) (Or.inr ⟨by rfl, rfl⟩) hHeld ?rrr4)
  try simp only [Act.put, List.setIfInBounds_toArray, List.set_cons_zero, List.set_cons_succ]
  refine wpAnyH_done (by kernel_rfl) ?_ _
  refine NoPanic.normal ?_
  clear hb6 hb7 hT p0 p1 q0 q1
  obtain ⟨hT, p0, p1, q0, q1⟩ := hHeld
  go_wp2_with fail
  refine (X3 _).out.mono ?_
  rintro e v1 ⟨rfl, hv1⟩
  replace p0 := kc hv1 p0
  replace p1 := kc hv1 p1
  replace q0 := kc hv1 q0
  replace q1 := kc hv1 q1
  replace hT := hT.trans (hv1.mono hT.size)
  clear hv1
  go_wp2_with fail
  refine wp_region_noPanic ?_
  refine wp_region_held_drew (S := fun w' => Below w.heap.size w w' ∧ w'.cell? ⟨P, 0, none⟩ = some (.int .i64 A) ∧ w'.cell? ⟨P, 1, none⟩ = some (.int .i64 B) ∧ w'.cell? ⟨Q, 0, none⟩ = some (.int .i64 C) ∧ w'.cell? ⟨Q, 1, none⟩ = some (.int .i64 D)) (by kernel_rfl) (⟨hT.drew, p0, p1, q0, q1⟩) (fun hHeld => ?_)
  first
    | (refine wpAnyH_take (i := 0) (oi := ⟨some 49, _, _, _, _, _⟩) (v := ?vs0) rfl (by kernel_rfl) (by kernel_rfl) (by kernel_rfl) (fun _ _ _ h => h) (Or.inl ⟨by rfl, ?hys0⟩) hHeld ?rrs0
       case hys0 => (intro w hSw; (try dsimp only at hSw); go_simp; try with_reducible rfl))
    | (refine wpAnyH_take (i := 0) (oi := ⟨some 49, _, _, _, _, _⟩) (v := undef) rfl (by kernel_rfl) (by kernel_rfl) (by kernel_rfl) (fun _ _ _ h => h) (Or.inr ⟨by rfl, rfl⟩) hHeld ?rrs0)
  try simp only [Act.put, List.setIfInBounds_toArray, List.set_cons_zero, List.set_cons_succ]
  first
    | (refine wpAnyH_take (i := 1) (oi := ⟨some 50, _, _, _, _, _⟩) (v := ?vs1) rfl (by kernel_rfl) (by kernel_rfl) (by kernel_rfl) (fun _ _ _ h => h) (Or.inl ⟨by rfl, ?hys1⟩) hHeld ?rrs1
       case hys1 => (intro w hSw; (try dsimp only at hSw); go_simp; try with_reducible rfl))
    | (refine wpAnyH_take (i := 1) (oi := ⟨some 50, _, _, _, _, _⟩) (v := undef) rfl (by kernel_rfl) (by kernel_rfl) (by kernel_rfl) (fun _ _ _ h => h) (Or.inr ⟨by rfl, rfl⟩) hHeld ?rrs1)
  try simp only [Act.put, List.setIfInBounds_toArray, List.set_cons_zero, List.set_cons_succ]
  refine wpAnyH_ready (rs := [2]) (by kernel_rfl) (by simp) ?_
  refine AllReadyH.cons (o := ⟨some 51, _, _, _, _, _⟩) rfl (fun K hK => ?_) AllReadyH.nil
  go_simp
  (go_at_call 22; refine (LP _).out.mono ?_; rintro e w6 ⟨rfl, hb6⟩)
  refine hK.out _ _ (keep4 hHeld hb6) (fun hHeld2 => ?_)
  clear hK K hHeld
  have hHeld := hHeld2
  clear hHeld2
  try simp only [Act.put, List.setIfInBounds_toArray, List.set_cons_zero, List.set_cons_succ]
  refine wpAnyH_ready (rs := [3]) (by kernel_rfl) (by simp) ?_
  refine AllReadyH.cons (o := ⟨some 52, _, _, _, _, _⟩) rfl (fun K hK => ?_) AllReadyH.nil
  go_simp
  (go_at_call 24; refine (X4 _).out.mono ?_; rintro e w7 ⟨rfl, hb7⟩)
  refine hK.out _ _ (keep4 hHeld hb7) (fun hHeld2 => ?_)
  clear hK K hHeld
  have hHeld := hHeld2
  clear hHeld2
  try simp only [Act.put, List.setIfInBounds_toArray, List.set_cons_zero, List.set_cons_succ]
  first
    | (refine wpAnyH_take (i := 4) (oi := ⟨some 13, _, _, _, _, _⟩) (v := ?vs4) rfl (by kernel_rfl) (by kernel_rfl) (by kernel_rfl) (fun _ _ _ h => h) (Or.inl ⟨by rfl, ?hys4⟩) hHeld ?rrs4
       case hys4 => (intro w hSw; (try dsimp only at hSw); go_simp; try with_reducible rfl))
    | (refine wpAnyH_take (i := 4) (oi := ⟨some 13, _, _, _, _, _⟩) (v := undef) rfl (by kernel_rfl) (by kernel_rfl) (by kernel_rfl) (fun _ _ _ h => h) (Or.inr ⟨by rfl, rfl⟩) hHeld ?rrs4)
  try simp only [Act.put, List.setIfInBounds_toArray, List.set_cons_zero, List.set_cons_succ]
  refine wpAnyH_done (by kernel_rfl) ?_ _
  refine NoPanic.normal ?_
  clear hb6 hb7 hT p0 p1 q0 q1
  obtain ⟨hT, p0, p1, q0, q1⟩ := hHeld
  go_wp2_with fail
  go_ret
  exact ⟨rfl, hT⟩

set_option maxRecDepth 20000 in
set_option maxHeartbeats 8000000 in
theorem nest_tc (na nb ma mb A B C D L M k C0 D0 : Int) (t1 t2 : Bool) (w : World) (E : Env w) (hBD : D < B)
    (NE : ∀ w, Hid (Calls Tryd.prog 12 #[.int .i64 na, .int .i64 nb] w fun e w' => e = .returned (.agg #[.int .i64 A, .int .i64 B]) ∧ Below w.heap.size w w'))
    (NF : ∀ w, Hid (Calls Tryd.prog 12 #[.int .i64 ma, .int .i64 mb] w fun e w' => e = .returned (.agg #[.int .i64 C0, .int .i64 D0]) ∧ Below w.heap.size w w'))
    (PK : ∀ w, Hid (Calls Tryd.prog 11 #[.int .i64 ma, .int .i64 300] w fun e w' => e = .returned (.int .i64 k) ∧ w = w'))
    (NG : ∀ w, Hid (Calls Tryd.prog 12 #[.int .i64 (A + k), .int .i64 mb] w fun e w' => e = .returned (.agg #[.int .i64 C, .int .i64 D]) ∧ Below w.heap.size w w'))
    (e1 : IntKind.i64.wrap (A + k) = A + k)
    (X1 : ∀ w, Hid (Calls Tryd.prog 24 #[.agg #[.int .i64 A, .int .i64 B], .int .i64 C] w fun e w' => e = .returned (.bool t1) ∧ Below w.heap.size w w'))
    (X2 : ∀ w, Hid (Calls Tryd.prog 24 #[.agg #[.int .i64 A, .int .i64 B], .int .i64 M] w fun e w' => e = .returned (.bool t2) ∧ Below w.heap.size w w'))
    (X3 : ∀ w, Hid (Calls Tryd.prog 24 #[.agg #[.int .i64 C, .int .i64 D], .int .i64 A] w fun e w' => e = .returned (.bool true) ∧ Below w.heap.size w w'))
    (X4 : ∀ w, Hid (Calls Tryd.prog 24 #[.agg #[.int .i64 C, .int .i64 D], .int .i64 L] w fun e w' => e = .returned (.bool true) ∧ Below w.heap.size w w'))
    (LQ : ∀ w, Hid (Calls Tryd.prog 22 #[.agg #[.int .i64 C, .int .i64 D]] w fun e w' => e = .returned (.int .i64 M) ∧ Below w.heap.size w w'))
    (LP : ∀ w, Hid (Calls Tryd.prog 22 #[.agg #[.int .i64 A, .int .i64 B]] w fun e w' => e = .returned (.int .i64 L) ∧ Below w.heap.size w w')) :
    Calls Tryd.prog 7 #[.agg #[.int .i64 na, .int .i64 nb], .agg #[.int .i64 ma, .int .i64 mb], .bool true] w fun e w' => e = .returned (.bool true) ∧ Below w.heap.size w w' := by
  have EX := fun w E => Lib.hid (ex_any w E)
  have HE := Lib.hid E
  clear E
  go_enter Tryd.func7, Tryd.ntmps7
  go_wp2_with fail
  have hb0 := ((Below.refl w.heap.size w).alloc (Nat.le_refl _) (.cells #[.int .i64 na, .int .i64 nb] 23)).alloc (by simp) (.cells #[.int .i64 ma, .int .i64 mb] 23)
  have n0 : ((w.alloc (.cells #[.int .i64 na, .int .i64 nb] 23)).alloc (.cells #[.int .i64 ma, .int .i64 mb] 23)).cell? ⟨w.heap.size, 0, none⟩ = some (.int .i64 na) := by simp
  have n1 : ((w.alloc (.cells #[.int .i64 na, .int .i64 nb] 23)).alloc (.cells #[.int .i64 ma, .int .i64 mb] 23)).cell? ⟨w.heap.size, 1, none⟩ = some (.int .i64 nb) := by simp
  have m0 : ((w.alloc (.cells #[.int .i64 na, .int .i64 nb] 23)).alloc (.cells #[.int .i64 ma, .int .i64 mb] 23)).cell? ⟨w.heap.size + 1, 0, none⟩ = some (.int .i64 ma) := by simp
  have m1 : ((w.alloc (.cells #[.int .i64 na, .int .i64 nb] 23)).alloc (.cells #[.int .i64 ma, .int .i64 mb] 23)).cell? ⟨w.heap.size + 1, 1, none⟩ = some (.int .i64 mb) := by simp
  refine (EX _ (HE.out.stay hb0)).out.mono ?_
  rintro e w1 ⟨rfl, hb1⟩
  replace n0 := kc hb1 n0
  replace n1 := kc hb1 n1
  replace m0 := kc hb1 m0
  replace m1 := kc hb1 m1
  have h1 := hb0.trans (hb1.mono hb0.size)
  clear hb0 hb1
  go_wp2_with fail
  refine (NE _).out.mono ?_
  rintro e w2 ⟨rfl, hb2⟩
  replace m0 := ka (.cells #[.int .i64 A, .int .i64 B] 23) (kc hb2 m0)
  replace m1 := ka (.cells #[.int .i64 A, .int .i64 B] 23) (kc hb2 m1)
  have h2 := (h1.trans (hb2.mono h1.size))
  have h2a := h2.alloc h2.size (.cells #[.int .i64 A, .int .i64 B] 23)
  have p0 : (w2.alloc (.cells #[.int .i64 A, .int .i64 B] 23)).cell? ⟨w2.heap.size, 0, none⟩ = some (.int .i64 A) := by simp
  have p1 : (w2.alloc (.cells #[.int .i64 A, .int .i64 B] 23)).cell? ⟨w2.heap.size, 1, none⟩ = some (.int .i64 B) := by simp
  clear n0 n1 h1 hb2 h2
  obtain ⟨P, hP⟩ : ∃ P, w2.heap.size = P := ⟨_, rfl⟩
  rw [hP] at p0 p1
  have HP := Lib.hid hP
  clear hP
  go_wp2_with fail
  rw [HP.out]
  refine (NF _).out.mono ?_
  rintro e w3 ⟨rfl, hb3⟩
  have m0' := m0
  have p0' := p0
  replace m0 := ka (.cells #[.int .i64 C0, .int .i64 D0] 23) (kc hb3 m0)
  replace m1 := ka (.cells #[.int .i64 C0, .int .i64 D0] 23) (kc hb3 m1)
  replace p0 := ka (.cells #[.int .i64 C0, .int .i64 D0] 23) (kc hb3 p0)
  replace p1 := ka (.cells #[.int .i64 C0, .int .i64 D0] 23) (kc hb3 p1)
  have h3 := (h2a.trans (hb3.mono h2a.size))
  have h3a := h3.alloc h3.size (.cells #[.int .i64 C0, .int .i64 D0] 23)
  have q0 : (w3.alloc (.cells #[.int .i64 C0, .int .i64 D0] 23)).cell? ⟨w3.heap.size, 0, none⟩ = some (.int .i64 C0) := by simp
  have q1 : (w3.alloc (.cells #[.int .i64 C0, .int .i64 D0] 23)).cell? ⟨w3.heap.size, 1, none⟩ = some (.int .i64 D0) := by simp
  have z0 : (w3.alloc (.cells #[.int .i64 C0, .int .i64 D0] 23)).frozen? ⟨w3.heap.size, 0, none⟩ = false := by simp
  have z1 : (w3.alloc (.cells #[.int .i64 C0, .int .i64 D0] 23)).frozen? ⟨w3.heap.size, 1, none⟩ = false := by simp
  have hlm := World.block_lt_of_cell? _ _ (kc hb3 m0')
  have hlp := World.block_lt_of_cell? _ _ (kc hb3 p0')
  have hPQ0 : P ≠ w3.heap.size := by simp at hlp; omega
  have hMQ0 : w.heap.size + 1 ≠ w3.heap.size := by simp at hlm; omega
  have hWQ := h3.size
  clear h2a hb3 h3 m0' p0' hlm hlp
  obtain ⟨Q, hQ⟩ : ∃ Q, w3.heap.size = Q := ⟨_, rfl⟩
  rw [hQ] at q0 q1 z0 z1 hPQ0 hMQ0 hWQ
  have hPQ : P ≠ Q ∧ w.heap.size ≤ Q := ⟨hPQ0, hWQ⟩
  have hMQ := hMQ0
  clear hPQ0 hMQ0 hWQ
  have HQ := Lib.hid hQ
  clear hQ
  obtain ⟨W3, hW3⟩ : ∃ W, w3.alloc (.cells #[.int .i64 C0, .int .i64 D0] 23) = W := ⟨_, rfl⟩
  rw [hW3] at m0 m1 p0 p1 q0 q1 z0 z1 h3a
  have HW := Lib.hid hW3
  clear hW3
  go_wp2_with fail
  rw [HQ.out, HW.out]
  clear HE EX NE NF
  have hK : Below w.heap.size w W3.drew ∧ W3.drew.cell? ⟨P, 0, none⟩ = some (.int .i64 A) ∧ W3.drew.cell? ⟨P, 1, none⟩ = some (.int .i64 B) ∧ W3.drew.cell? ⟨w.heap.size + 1, 0, none⟩ = some (.int .i64 ma) ∧ W3.drew.cell? ⟨w.heap.size + 1, 1, none⟩ = some (.int .i64 mb) ∧
      (W3.drew.cell? ⟨Q, 0, none⟩).isSome = true ∧ (W3.drew.cell? ⟨Q, 1, none⟩).isSome = true ∧ W3.drew.frozen? ⟨Q, 0, none⟩ = false ∧ W3.drew.frozen? ⟨Q, 1, none⟩ = false :=
    ⟨h3a.drew, p0, p1, m0, m1, by rw [World.cell?_drew, q0]; rfl, by rw [World.cell?_drew, q1]; rfl, z0, z1⟩
  refine wp_region_noPanic ?_
  refine wp_region_held_drew (S := fun w' => Below w.heap.size w w' ∧ w'.cell? ⟨P, 0, none⟩ = some (.int .i64 A) ∧ w'.cell? ⟨P, 1, none⟩ = some (.int .i64 B) ∧ w'.cell? ⟨w.heap.size + 1, 0, none⟩ = some (.int .i64 ma) ∧ w'.cell? ⟨w.heap.size + 1, 1, none⟩ = some (.int .i64 mb) ∧ (w'.cell? ⟨Q, 0, none⟩).isSome = true ∧ (w'.cell? ⟨Q, 1, none⟩).isSome = true ∧ w'.frozen? ⟨Q, 0, none⟩ = false ∧ w'.frozen? ⟨Q, 1, none⟩ = false) (by kernel_rfl) (hK) (fun hHeld => ?_)
  first
    | (refine wpAnyH_take (i := 0) (oi := ⟨some 28, _, _, _, _, _⟩) (v := ?va0) rfl (by kernel_rfl) (by kernel_rfl) (by kernel_rfl) (fun _ _ _ h => h) (Or.inl ⟨by rfl, ?hya0⟩) hHeld ?rra0
       case hya0 => (intro w hSw; (try dsimp only at hSw); go_simp; try with_reducible rfl))
    | (refine wpAnyH_take (i := 0) (oi := ⟨some 28, _, _, _, _, _⟩) (v := undef) rfl (by kernel_rfl) (by kernel_rfl) (by kernel_rfl) (fun _ _ _ h => h) (Or.inr ⟨by rfl, rfl⟩) hHeld ?rra0)
  try simp only [Act.put, List.setIfInBounds_toArray, List.set_cons_zero, List.set_cons_succ]
  try rw [e1]
  first
    | (refine wpAnyH_take (i := 1) (oi := ⟨some 29, _, _, _, _, _⟩) (v := ?va1) rfl (by kernel_rfl) (by kernel_rfl) (by kernel_rfl) (fun _ _ _ h => h) (Or.inl ⟨by rfl, ?hya1⟩) hHeld ?rra1
       case hya1 => (intro w hSw; (try dsimp only at hSw); go_simp; try with_reducible rfl))
    | (refine wpAnyH_take (i := 1) (oi := ⟨some 29, _, _, _, _, _⟩) (v := undef) rfl (by kernel_rfl) (by kernel_rfl) (by kernel_rfl) (fun _ _ _ h => h) (Or.inr ⟨by rfl, rfl⟩) hHeld ?rra1)
  try simp only [Act.put, List.setIfInBounds_toArray, List.set_cons_zero, List.set_cons_succ]
  try rw [e1]
  first
    | (refine wpAnyH_take (i := 2) (oi := ⟨some 30, _, _, _, _, _⟩) (v := ?va2) rfl (by kernel_rfl) (by kernel_rfl) (by kernel_rfl) (fun _ _ _ h => h) (Or.inl ⟨by rfl, ?hya2⟩) hHeld ?rra2
       case hya2 => (intro w hSw; (try dsimp only at hSw); go_simp; try with_reducible rfl))
    | (refine wpAnyH_take (i := 2) (oi := ⟨some 30, _, _, _, _, _⟩) (v := undef) rfl (by kernel_rfl) (by kernel_rfl) (by kernel_rfl) (fun _ _ _ h => h) (Or.inr ⟨by rfl, rfl⟩) hHeld ?rra2)
  try simp only [Act.put, List.setIfInBounds_toArray, List.set_cons_zero, List.set_cons_succ]
  try rw [e1]
  first
    | (refine wpAnyH_take (i := 3) (oi := ⟨some 31, _, _, _, _, _⟩) (v := ?va3) rfl (by kernel_rfl) (by kernel_rfl) (by kernel_rfl) (fun _ _ _ h => h) (Or.inl ⟨by rfl, ?hya3⟩) hHeld ?rra3
       case hya3 => (intro w hSw; (try dsimp only at hSw); go_simp; try with_reducible rfl))
    | (refine wpAnyH_take (i := 3) (oi := ⟨some 31, _, _, _, _, _⟩) (v := undef) rfl (by kernel_rfl) (by kernel_rfl) (by kernel_rfl) (fun _ _ _ h => h) (Or.inr ⟨by rfl, rfl⟩) hHeld ?rra3)
  try simp only [Act.put, List.setIfInBounds_toArray, List.set_cons_zero, List.set_cons_succ]
  try rw [e1]
  first
    | (refine wpAnyH_take (i := 6) (oi := ⟨some 34, _, _, _, _, _⟩) (v := ?va6) rfl (by kernel_rfl) (by kernel_rfl) (by kernel_rfl) (fun _ _ _ h => h) (Or.inl ⟨by rfl, ?hya6⟩) hHeld ?rra6
       case hya6 => (intro w hSw; (try dsimp only at hSw); go_simp; try with_reducible rfl))
    | (refine wpAnyH_take (i := 6) (oi := ⟨some 34, _, _, _, _, _⟩) (v := undef) rfl (by kernel_rfl) (by kernel_rfl) (by kernel_rfl) (fun _ _ _ h => h) (Or.inr ⟨by rfl, rfl⟩) hHeld ?rra6)
  try simp only [Act.put, List.setIfInBounds_toArray, List.set_cons_zero, List.set_cons_succ]
  try rw [e1]
  first
    | (refine wpAnyH_take (i := 7) (oi := ⟨some 35, _, _, _, _, _⟩) (v := ?va7) rfl (by kernel_rfl) (by kernel_rfl) (by kernel_rfl) (fun _ _ _ h => h) (Or.inl ⟨by rfl, ?hya7⟩) hHeld ?rra7
       case hya7 => (intro w hSw; (try dsimp only at hSw); go_simp; try with_reducible rfl))
    | (refine wpAnyH_take (i := 7) (oi := ⟨some 35, _, _, _, _, _⟩) (v := undef) rfl (by kernel_rfl) (by kernel_rfl) (by kernel_rfl) (fun _ _ _ h => h) (Or.inr ⟨by rfl, rfl⟩) hHeld ?rra7)
  try simp only [Act.put, List.setIfInBounds_toArray, List.set_cons_zero, List.set_cons_succ]
  try rw [e1]
  refine wpAnyH_ready (rs := [4]) (by kernel_rfl) (by simp) ?_
  refine AllReadyH.cons (o := ⟨some 32, _, _, _, _, _⟩) rfl (fun K hK => ?_) AllReadyH.nil
  go_simp
  (go_at_call 11; refine (PK _).out.mono ?_; rintro e w' ⟨rfl, rfl⟩)
  refine hK.out _ _ (hHeld) (fun hHeld2 => ?_)
  clear hK K hHeld
  have hHeld := hHeld2
  clear hHeld2
  try simp only [Act.put, List.setIfInBounds_toArray, List.set_cons_zero, List.set_cons_succ]
  try rw [e1]
  first
    | (refine wpAnyH_take (i := 5) (oi := ⟨some 33, _, _, _, _, _⟩) (v := ?va5) rfl (by kernel_rfl) (by kernel_rfl) (by kernel_rfl) (fun _ _ _ h => h) (Or.inl ⟨by rfl, ?hya5⟩) hHeld ?rra5
       case hya5 => (intro w hSw; (try dsimp only at hSw); go_simp; try with_reducible rfl))
    | (refine wpAnyH_take (i := 5) (oi := ⟨some 33, _, _, _, _, _⟩) (v := undef) rfl (by kernel_rfl) (by kernel_rfl) (by kernel_rfl) (fun _ _ _ h => h) (Or.inr ⟨by rfl, rfl⟩) hHeld ?rra5)
  try simp only [Act.put, List.setIfInBounds_toArray, List.set_cons_zero, List.set_cons_succ]
  try rw [e1]
  refine wpAnyH_ready (rs := [8]) (by kernel_rfl) (by simp) ?_
  refine AllReadyH.cons (o := ⟨some 36, _, _, _, _, _⟩) rfl (fun K hK => ?_) AllReadyH.nil
  go_simp
  (go_at_call 12; refine (NG _).out.mono ?_; rintro e w4 ⟨rfl, hb4⟩)
  refine hK.out _ _ (keep8 hHeld hb4) (fun hHeld2 => ?_)
  clear hK K hHeld
  have hHeld := hHeld2
  clear hHeld2
  try simp only [Act.put, List.setIfInBounds_toArray, List.set_cons_zero, List.set_cons_succ]
  try rw [e1]
  refine wpAnyH_ready (rs := [9]) (by kernel_rfl) (by simp) ?_
  refine AllReadyH.cons (o := ⟨none, _, _, _, _, _⟩) rfl (fun K hK => ?_) AllReadyH.nil
  have hBefore := hHeld
  obtain ⟨-, -, -, -, -, hs0, hs1, hf0, hf1⟩ := id hHeld
  obtain ⟨u0, hu0⟩ := Option.isSome_iff_exists.1 hs0
  obtain ⟨u1, hu1⟩ := Option.isSome_iff_exists.1 hs1
  go_simp
  refine hK.out _ _ (keep8s hHeld hPQ hMQ _ _) (fun hHeld2 => ?_)
  clear hK K hHeld
  have hHeld := hHeld2
  clear hHeld2
  try simp only [Act.put, List.setIfInBounds_toArray, List.set_cons_zero, List.set_cons_succ]
  try rw [e1]
  refine wpAnyH_done (by kernel_rfl) ?_ _
  refine NoPanic.normal ?_
  obtain ⟨g0, g1⟩ := two_sets hu0 hu1 (.int .i64 C) (.int .i64 D)
  obtain ⟨hT, p0, p1, -, -, -, -, -, -⟩ := hHeld
  clear hBefore hs0 hs1 hf0 hf1 hu0 hu1 hK h3a q0 q1 z0 z1 m0 m1 PK NG e1
  have q0 := g0
  have q1 := g1
  clear g0 g1
  obtain ⟨W5, hW5⟩ : ∃ W, (w4.setCell ⟨Q, 0, none⟩ (.int .i64 C)).setCell ⟨Q, 1, none⟩ (.int .i64 D) = W := ⟨_, rfl⟩
  rw [hW5] at hT p0 p1 q0 q1
  rw [hW5]
  clear hW5
  go_wp2_with fail
  refine (X1 _).out.mono ?_
  rintro e v0 ⟨rfl, hv0⟩
  replace p0 := kc hv0 p0
  replace p1 := kc hv0 p1
  replace q0 := kc hv0 q0
  replace q1 := kc hv0 q1
  replace hT := hT.trans (hv0.mono hT.size)
  clear hv0
  go_wp2_with fail
  refine wp_region_noPanic ?_
  refine wp_region_held_drew (S := fun w' => Below w.heap.size w w' ∧ w'.cell? ⟨P, 0, none⟩ = some (.int .i64 A) ∧ w'.cell? ⟨P, 1, none⟩ = some (.int .i64 B) ∧ w'.cell? ⟨Q, 0, none⟩ = some (.int .i64 C) ∧ w'.cell? ⟨Q, 1, none⟩ = some (.int .i64 D)) (by kernel_rfl) (⟨hT.drew, p0, p1, q0, q1⟩) (fun hHeld => ?_)
  first
    | (refine wpAnyH_take (i := 0) (oi := ⟨some 41, _, _, _, _, _⟩) (v := ?vr0) rfl (by kernel_rfl) (by kernel_rfl) (by kernel_rfl) (fun _ _ _ h => h) (Or.inl ⟨by rfl, ?hyr0⟩) hHeld ?rrr0
       case hyr0 => (intro w hSw; (try dsimp only at hSw); go_simp; try with_reducible rfl))
    | (refine wpAnyH_take (i := 0) (oi := ⟨some 41, _, _, _, _, _⟩) (v := undef) rfl (by kernel_rfl) (by kernel_rfl) (by kernel_rfl) (fun _ _ _ h => h) (Or.inr ⟨by rfl, rfl⟩) hHeld ?rrr0)
  try simp only [Act.put, List.setIfInBounds_toArray, List.set_cons_zero, List.set_cons_succ]
  first
    | (refine wpAnyH_take (i := 1) (oi := ⟨some 42, _, _, _, _, _⟩) (v := ?vr1) rfl (by kernel_rfl) (by kernel_rfl) (by kernel_rfl) (fun _ _ _ h => h) (Or.inl ⟨by rfl, ?hyr1⟩) hHeld ?rrr1
       case hyr1 => (intro w hSw; (try dsimp only at hSw); go_simp; try with_reducible rfl))
    | (refine wpAnyH_take (i := 1) (oi := ⟨some 42, _, _, _, _, _⟩) (v := undef) rfl (by kernel_rfl) (by kernel_rfl) (by kernel_rfl) (fun _ _ _ h => h) (Or.inr ⟨by rfl, rfl⟩) hHeld ?rrr1)
  try simp only [Act.put, List.setIfInBounds_toArray, List.set_cons_zero, List.set_cons_succ]
  refine wpAnyH_ready (rs := [2]) (by kernel_rfl) (by simp) ?_
  refine AllReadyH.cons (o := ⟨some 43, _, _, _, _, _⟩) rfl (fun K hK => ?_) AllReadyH.nil
  go_simp
  (go_at_call 22; refine (LQ _).out.mono ?_; rintro e w6 ⟨rfl, hb6⟩)
  refine hK.out _ _ (keep4 hHeld hb6) (fun hHeld2 => ?_)
  clear hK K hHeld
  have hHeld := hHeld2
  clear hHeld2
  try simp only [Act.put, List.setIfInBounds_toArray, List.set_cons_zero, List.set_cons_succ]
  refine wpAnyH_ready (rs := [3]) (by kernel_rfl) (by simp) ?_
  refine AllReadyH.cons (o := ⟨some 44, _, _, _, _, _⟩) rfl (fun K hK => ?_) AllReadyH.nil
  go_simp
  (go_at_call 24; refine (X2 _).out.mono ?_; rintro e w7 ⟨rfl, hb7⟩)
  refine hK.out _ _ (keep4 hHeld hb7) (fun hHeld2 => ?_)
  clear hK K hHeld
  have hHeld := hHeld2
  clear hHeld2
  try simp only [Act.put, List.setIfInBounds_toArray, List.set_cons_zero, List.set_cons_succ]
  first
    | (refine wpAnyH_take (i := 4) (oi := ⟨some 11, _, _, _, _, _⟩) (v := ?vr4) rfl (by kernel_rfl) (by kernel_rfl) (by kernel_rfl) (fun _ _ _ h => h) (Or.inl ⟨by rfl, ?hyr4⟩) hHeld ?rrr4
       case hyr4 => (intro w hSw; (try dsimp only at hSw); go_simp; try with_reducible rfl))
    | (refine wpAnyH_take (i := 4) (oi := ⟨some 11, _, _, _, _, _⟩) (v := undef) rfl (by kernel_rfl) (by kernel_rfl) (by kernel_rfl) (fun _ _ _ h => h) (Or.inr ⟨by rfl, rfl⟩) hHeld ?rrr4)
  try simp only [Act.put, List.setIfInBounds_toArray, List.set_cons_zero, List.set_cons_succ]
  refine wpAnyH_done (by kernel_rfl) ?_ _
  refine NoPanic.normal ?_
  clear hb6 hb7 hT p0 p1 q0 q1
  obtain ⟨hT, p0, p1, q0, q1⟩ := hHeld
  go_wp2_with fail
  refine (X3 _).out.mono ?_
  rintro e v1 ⟨rfl, hv1⟩
  replace p0 := kc hv1 p0
  replace p1 := kc hv1 p1
  replace q0 := kc hv1 q0
  replace q1 := kc hv1 q1
  replace hT := hT.trans (hv1.mono hT.size)
  clear hv1
  go_wp2_with fail
  refine wp_region_noPanic ?_
  refine wp_region_held_drew (S := fun w' => Below w.heap.size w w' ∧ w'.cell? ⟨P, 0, none⟩ = some (.int .i64 A) ∧ w'.cell? ⟨P, 1, none⟩ = some (.int .i64 B) ∧ w'.cell? ⟨Q, 0, none⟩ = some (.int .i64 C) ∧ w'.cell? ⟨Q, 1, none⟩ = some (.int .i64 D)) (by kernel_rfl) (⟨hT.drew, p0, p1, q0, q1⟩) (fun hHeld => ?_)
  first
    | (refine wpAnyH_take (i := 0) (oi := ⟨some 49, _, _, _, _, _⟩) (v := ?vs0) rfl (by kernel_rfl) (by kernel_rfl) (by kernel_rfl) (fun _ _ _ h => h) (Or.inl ⟨by rfl, ?hys0⟩) hHeld ?rrs0
       case hys0 => (intro w hSw; (try dsimp only at hSw); go_simp; try with_reducible rfl))
    | (refine wpAnyH_take (i := 0) (oi := ⟨some 49, _, _, _, _, _⟩) (v := undef) rfl (by kernel_rfl) (by kernel_rfl) (by kernel_rfl) (fun _ _ _ h => h) (Or.inr ⟨by rfl, rfl⟩) hHeld ?rrs0)
  try simp only [Act.put, List.setIfInBounds_toArray, List.set_cons_zero, List.set_cons_succ]
  first
    | (refine wpAnyH_take (i := 1) (oi := ⟨some 50, _, _, _, _, _⟩) (v := ?vs1) rfl (by kernel_rfl) (by kernel_rfl) (by kernel_rfl) (fun _ _ _ h => h) (Or.inl ⟨by rfl, ?hys1⟩) hHeld ?rrs1
       case hys1 => (intro w hSw; (try dsimp only at hSw); go_simp; try with_reducible rfl))
    | (refine wpAnyH_take (i := 1) (oi := ⟨some 50, _, _, _, _, _⟩) (v := undef) rfl (by kernel_rfl) (by kernel_rfl) (by kernel_rfl) (fun _ _ _ h => h) (Or.inr ⟨by rfl, rfl⟩) hHeld ?rrs1)
  try simp only [Act.put, List.setIfInBounds_toArray, List.set_cons_zero, List.set_cons_succ]
  refine wpAnyH_ready (rs := [2]) (by kernel_rfl) (by simp) ?_
  refine AllReadyH.cons (o := ⟨some 51, _, _, _, _, _⟩) rfl (fun K hK => ?_) AllReadyH.nil
  go_simp
  (go_at_call 22; refine (LP _).out.mono ?_; rintro e w6 ⟨rfl, hb6⟩)
  refine hK.out _ _ (keep4 hHeld hb6) (fun hHeld2 => ?_)
  clear hK K hHeld
  have hHeld := hHeld2
  clear hHeld2
  try simp only [Act.put, List.setIfInBounds_toArray, List.set_cons_zero, List.set_cons_succ]
  refine wpAnyH_ready (rs := [3]) (by kernel_rfl) (by simp) ?_
  refine AllReadyH.cons (o := ⟨some 52, _, _, _, _, _⟩) rfl (fun K hK => ?_) AllReadyH.nil
  go_simp
  (go_at_call 24; refine (X4 _).out.mono ?_; rintro e w7 ⟨rfl, hb7⟩)
  refine hK.out _ _ (keep4 hHeld hb7) (fun hHeld2 => ?_)
  clear hK K hHeld
  have hHeld := hHeld2
  clear hHeld2
  try simp only [Act.put, List.setIfInBounds_toArray, List.set_cons_zero, List.set_cons_succ]
  first
    | (refine wpAnyH_take (i := 4) (oi := ⟨some 13, _, _, _, _, _⟩) (v := ?vs4) rfl (by kernel_rfl) (by kernel_rfl) (by kernel_rfl) (fun _ _ _ h => h) (Or.inl ⟨by rfl, ?hys4⟩) hHeld ?rrs4
       case hys4 => (intro w hSw; (try dsimp only at hSw); go_simp; try with_reducible rfl))
    | (refine wpAnyH_take (i := 4) (oi := ⟨some 13, _, _, _, _, _⟩) (v := undef) rfl (by kernel_rfl) (by kernel_rfl) (by kernel_rfl) (fun _ _ _ h => h) (Or.inr ⟨by rfl, rfl⟩) hHeld ?rrs4)
  try simp only [Act.put, List.setIfInBounds_toArray, List.set_cons_zero, List.set_cons_succ]
  refine wpAnyH_done (by kernel_rfl) ?_ _
  refine NoPanic.normal ?_
  clear hb6 hb7 hT p0 p1 q0 q1
  obtain ⟨hT, p0, p1, q0, q1⟩ := hHeld
  go_wp2_with fail
  go_ret
  exact ⟨rfl, hT⟩

set_option maxRecDepth 20000 in
set_option maxHeartbeats 8000000 in
theorem nest_td (na nb ma mb A B C D L M k C0 D0 : Int) (w : World) (E : Env w) (hBD : D < B)
    (NE : ∀ w, Hid (Calls Tryd.prog 12 #[.int .i64 na, .int .i64 nb] w fun e w' => e = .returned (.agg #[.int .i64 A, .int .i64 B]) ∧ Below w.heap.size w w'))
    (NF : ∀ w, Hid (Calls Tryd.prog 12 #[.int .i64 ma, .int .i64 mb] w fun e w' => e = .returned (.agg #[.int .i64 C0, .int .i64 D0]) ∧ Below w.heap.size w w'))
    (PK : ∀ w, Hid (Calls Tryd.prog 11 #[.int .i64 ma, .int .i64 300] w fun e w' => e = .returned (.int .i64 k) ∧ w = w'))
    (NG : ∀ w, Hid (Calls Tryd.prog 12 #[.int .i64 (A + k), .int .i64 mb] w fun e w' => e = .returned (.agg #[.int .i64 C, .int .i64 D]) ∧ Below w.heap.size w w'))
    (e1 : IntKind.i64.wrap (A + k) = A + k)
    (X1 : ∀ w, Hid (Calls Tryd.prog 24 #[.agg #[.int .i64 A, .int .i64 B], .int .i64 C] w fun e w' => e = .returned (.bool false) ∧ Below w.heap.size w w'))
    (X2 : ∀ w, Hid (Calls Tryd.prog 24 #[.agg #[.int .i64 A, .int .i64 B], .int .i64 M] w fun e w' => e = .returned (.bool false) ∧ Below w.heap.size w w'))
    (X3 : ∀ w, Hid (Calls Tryd.prog 24 #[.agg #[.int .i64 C, .int .i64 D], .int .i64 A] w fun e w' => e = .returned (.bool false) ∧ Below w.heap.size w w'))
    (X4 : ∀ w, Hid (Calls Tryd.prog 24 #[.agg #[.int .i64 C, .int .i64 D], .int .i64 L] w fun e w' => e = .returned (.bool false) ∧ Below w.heap.size w w'))
    (LQ : ∀ w, Hid (Calls Tryd.prog 22 #[.agg #[.int .i64 C, .int .i64 D]] w fun e w' => e = .returned (.int .i64 M) ∧ Below w.heap.size w w'))
    (LP : ∀ w, Hid (Calls Tryd.prog 22 #[.agg #[.int .i64 A, .int .i64 B]] w fun e w' => e = .returned (.int .i64 L) ∧ Below w.heap.size w w')) :
    Calls Tryd.prog 7 #[.agg #[.int .i64 na, .int .i64 nb], .agg #[.int .i64 ma, .int .i64 mb], .bool true] w fun e w' => e = .returned (.bool true) ∧ Below w.heap.size w w' := by
  have EX := fun w E => Lib.hid (ex_any w E)
  have HE := Lib.hid E
  clear E
  go_enter Tryd.func7, Tryd.ntmps7
  go_wp2_with fail
  have hb0 := ((Below.refl w.heap.size w).alloc (Nat.le_refl _) (.cells #[.int .i64 na, .int .i64 nb] 23)).alloc (by simp) (.cells #[.int .i64 ma, .int .i64 mb] 23)
  have n0 : ((w.alloc (.cells #[.int .i64 na, .int .i64 nb] 23)).alloc (.cells #[.int .i64 ma, .int .i64 mb] 23)).cell? ⟨w.heap.size, 0, none⟩ = some (.int .i64 na) := by simp
  have n1 : ((w.alloc (.cells #[.int .i64 na, .int .i64 nb] 23)).alloc (.cells #[.int .i64 ma, .int .i64 mb] 23)).cell? ⟨w.heap.size, 1, none⟩ = some (.int .i64 nb) := by simp
  have m0 : ((w.alloc (.cells #[.int .i64 na, .int .i64 nb] 23)).alloc (.cells #[.int .i64 ma, .int .i64 mb] 23)).cell? ⟨w.heap.size + 1, 0, none⟩ = some (.int .i64 ma) := by simp
  have m1 : ((w.alloc (.cells #[.int .i64 na, .int .i64 nb] 23)).alloc (.cells #[.int .i64 ma, .int .i64 mb] 23)).cell? ⟨w.heap.size + 1, 1, none⟩ = some (.int .i64 mb) := by simp
  refine (EX _ (HE.out.stay hb0)).out.mono ?_
  rintro e w1 ⟨rfl, hb1⟩
  replace n0 := kc hb1 n0
  replace n1 := kc hb1 n1
  replace m0 := kc hb1 m0
  replace m1 := kc hb1 m1
  have h1 := hb0.trans (hb1.mono hb0.size)
  clear hb0 hb1
  go_wp2_with fail
  refine (NE _).out.mono ?_
  rintro e w2 ⟨rfl, hb2⟩
  replace m0 := ka (.cells #[.int .i64 A, .int .i64 B] 23) (kc hb2 m0)
  replace m1 := ka (.cells #[.int .i64 A, .int .i64 B] 23) (kc hb2 m1)
  have h2 := (h1.trans (hb2.mono h1.size))
  have h2a := h2.alloc h2.size (.cells #[.int .i64 A, .int .i64 B] 23)
  have p0 : (w2.alloc (.cells #[.int .i64 A, .int .i64 B] 23)).cell? ⟨w2.heap.size, 0, none⟩ = some (.int .i64 A) := by simp
  have p1 : (w2.alloc (.cells #[.int .i64 A, .int .i64 B] 23)).cell? ⟨w2.heap.size, 1, none⟩ = some (.int .i64 B) := by simp
  clear n0 n1 h1 hb2 h2
  obtain ⟨P, hP⟩ : ∃ P, w2.heap.size = P := ⟨_, rfl⟩
  rw [hP] at p0 p1
  have HP := Lib.hid hP
  clear hP
  go_wp2_with fail
  rw [HP.out]
  refine (NF _).out.mono ?_
  rintro e w3 ⟨rfl, hb3⟩
  have m0' := m0
  have p0' := p0
  replace m0 := ka (.cells #[.int .i64 C0, .int .i64 D0] 23) (kc hb3 m0)
  replace m1 := ka (.cells #[.int .i64 C0, .int .i64 D0] 23) (kc hb3 m1)
  replace p0 := ka (.cells #[.int .i64 C0, .int .i64 D0] 23) (kc hb3 p0)
  replace p1 := ka (.cells #[.int .i64 C0, .int .i64 D0] 23) (kc hb3 p1)
  have h3 := (h2a.trans (hb3.mono h2a.size))
  have h3a := h3.alloc h3.size (.cells #[.int .i64 C0, .int .i64 D0] 23)
  have q0 : (w3.alloc (.cells #[.int .i64 C0, .int .i64 D0] 23)).cell? ⟨w3.heap.size, 0, none⟩ = some (.int .i64 C0) := by simp
  have q1 : (w3.alloc (.cells #[.int .i64 C0, .int .i64 D0] 23)).cell? ⟨w3.heap.size, 1, none⟩ = some (.int .i64 D0) := by simp
  have z0 : (w3.alloc (.cells #[.int .i64 C0, .int .i64 D0] 23)).frozen? ⟨w3.heap.size, 0, none⟩ = false := by simp
  have z1 : (w3.alloc (.cells #[.int .i64 C0, .int .i64 D0] 23)).frozen? ⟨w3.heap.size, 1, none⟩ = false := by simp
  have hlm := World.block_lt_of_cell? _ _ (kc hb3 m0')
  have hlp := World.block_lt_of_cell? _ _ (kc hb3 p0')
  have hPQ0 : P ≠ w3.heap.size := by simp at hlp; omega
  have hMQ0 : w.heap.size + 1 ≠ w3.heap.size := by simp at hlm; omega
  have hWQ := h3.size
  clear h2a hb3 h3 m0' p0' hlm hlp
  obtain ⟨Q, hQ⟩ : ∃ Q, w3.heap.size = Q := ⟨_, rfl⟩
  rw [hQ] at q0 q1 z0 z1 hPQ0 hMQ0 hWQ
  have hPQ : P ≠ Q ∧ w.heap.size ≤ Q := ⟨hPQ0, hWQ⟩
  have hMQ := hMQ0
  clear hPQ0 hMQ0 hWQ
  have HQ := Lib.hid hQ
  clear hQ
  obtain ⟨W3, hW3⟩ : ∃ W, w3.alloc (.cells #[.int .i64 C0, .int .i64 D0] 23) = W := ⟨_, rfl⟩
  rw [hW3] at m0 m1 p0 p1 q0 q1 z0 z1 h3a
  have HW := Lib.hid hW3
  clear hW3
  go_wp2_with fail
  rw [HQ.out, HW.out]
  clear HE EX NE NF
  have hK : Below w.heap.size w W3.drew ∧ W3.drew.cell? ⟨P, 0, none⟩ = some (.int .i64 A) ∧ W3.drew.cell? ⟨P, 1, none⟩ = some (.int .i64 B) ∧ W3.drew.cell? ⟨w.heap.size + 1, 0, none⟩ = some (.int .i64 ma) ∧ W3.drew.cell? ⟨w.heap.size + 1, 1, none⟩ = some (.int .i64 mb) ∧
      (W3.drew.cell? ⟨Q, 0, none⟩).isSome = true ∧ (W3.drew.cell? ⟨Q, 1, none⟩).isSome = true ∧ W3.drew.frozen? ⟨Q, 0, none⟩ = false ∧ W3.drew.frozen? ⟨Q, 1, none⟩ = false :=
    ⟨h3a.drew, p0, p1, m0, m1, by rw [World.cell?_drew, q0]; rfl, by rw [World.cell?_drew, q1]; rfl, z0, z1⟩
  refine wp_region_noPanic ?_
  refine wp_region_held_drew (S := fun w' => Below w.heap.size w w' ∧ w'.cell? ⟨P, 0, none⟩ = some (.int .i64 A) ∧ w'.cell? ⟨P, 1, none⟩ = some (.int .i64 B) ∧ w'.cell? ⟨w.heap.size + 1, 0, none⟩ = some (.int .i64 ma) ∧ w'.cell? ⟨w.heap.size + 1, 1, none⟩ = some (.int .i64 mb) ∧ (w'.cell? ⟨Q, 0, none⟩).isSome = true ∧ (w'.cell? ⟨Q, 1, none⟩).isSome = true ∧ w'.frozen? ⟨Q, 0, none⟩ = false ∧ w'.frozen? ⟨Q, 1, none⟩ = false) (by kernel_rfl) (hK) (fun hHeld => ?_)
  first
    | (refine wpAnyH_take (i := 0) (oi := ⟨some 28, _, _, _, _, _⟩) (v := ?va0) rfl (by kernel_rfl) (by kernel_rfl) (by kernel_rfl) (fun _ _ _ h => h) (Or.inl ⟨by rfl, ?hya0⟩) hHeld ?rra0
       case hya0 => (intro w hSw; (try dsimp only at hSw); go_simp; try with_reducible rfl))
    | (refine wpAnyH_take (i := 0) (oi := ⟨some 28, _, _, _, _, _⟩) (v := undef) rfl (by kernel_rfl) (by kernel_rfl) (by kernel_rfl) (fun _ _ _ h => h) (Or.inr ⟨by rfl, rfl⟩) hHeld ?rra0)
  try simp only [Act.put, List.setIfInBounds_toArray, List.set_cons_zero, List.set_cons_succ]
  try rw [e1]
  first
    | (refine wpAnyH_take (i := 1) (oi := ⟨some 29, _, _, _, _, _⟩) (v := ?va1) rfl (by kernel_rfl) (by kernel_rfl) (by kernel_rfl) (fun _ _ _ h => h) (Or.inl ⟨by rfl, ?hya1⟩) hHeld ?rra1
       case hya1 => (intro w hSw; (try dsimp only at hSw); go_simp; try with_reducible rfl))
    | (refine wpAnyH_take (i := 1) (oi := ⟨some 29, _, _, _, _, _⟩) (v := undef) rfl (by kernel_rfl) (by kernel_rfl) (by kernel_rfl) (fun _ _ _ h => h) (Or.inr ⟨by rfl, rfl⟩) hHeld ?rra1)
  try simp only [Act.put, List.setIfInBounds_toArray, List.set_cons_zero, List.set_cons_succ]
  try rw [e1]
  first
    | (refine wpAnyH_take (i := 2) (oi := ⟨some 30, _, _, _, _, _⟩) (v := ?va2) rfl (by kernel_rfl) (by kernel_rfl) (by kernel_rfl) (fun _ _ _ h => h) (Or.inl ⟨by rfl, ?hya2⟩) hHeld ?rra2
       case hya2 => (intro w hSw; (try dsimp only at hSw); go_simp; try with_reducible rfl))
    | (refine wpAnyH_take (i := 2) (oi := ⟨some 30, _, _, _, _, _⟩) (v := undef) rfl (by kernel_rfl) (by kernel_rfl) (by kernel_rfl) (fun _ _ _ h => h) (Or.inr ⟨by rfl, rfl⟩) hHeld ?rra2)
  try simp only [Act.put, List.setIfInBounds_toArray, List.set_cons_zero, List.set_cons_succ]
  try rw [e1]
  first
    | (refine wpAnyH_take (i := 3) (oi := ⟨some 31, _, _, _, _, _⟩) (v := ?va3) rfl (by kernel_rfl) (by kernel_rfl) (by kernel_rfl) (fun _ _ _ h => h) (Or.inl ⟨by rfl, ?hya3⟩) hHeld ?rra3
       case hya3 => (intro w hSw; (try dsimp only at hSw); go_simp; try with_reducible rfl))
    | (refine wpAnyH_take (i := 3) (oi := ⟨some 31, _, _, _, _, _⟩) (v := undef) rfl (by kernel_rfl) (by kernel_rfl) (by kernel_rfl) (fun _ _ _ h => h) (Or.inr ⟨by rfl, rfl⟩) hHeld ?rra3)
  try simp only [Act.put, List.setIfInBounds_toArray, List.set_cons_zero, List.set_cons_succ]
  try rw [e1]
  first
    | (refine wpAnyH_take (i := 6) (oi := ⟨some 34, _, _, _, _, _⟩) (v := ?va6) rfl (by kernel_rfl) (by kernel_rfl) (by kernel_rfl) (fun _ _ _ h => h) (Or.inl ⟨by rfl, ?hya6⟩) hHeld ?rra6
       case hya6 => (intro w hSw; (try dsimp only at hSw); go_simp; try with_reducible rfl))
    | (refine wpAnyH_take (i := 6) (oi := ⟨some 34, _, _, _, _, _⟩) (v := undef) rfl (by kernel_rfl) (by kernel_rfl) (by kernel_rfl) (fun _ _ _ h => h) (Or.inr ⟨by rfl, rfl⟩) hHeld ?rra6)
  try simp only [Act.put, List.setIfInBounds_toArray, List.set_cons_zero, List.set_cons_succ]
  try rw [e1]
  first
    | (refine wpAnyH_take (i := 7) (oi := ⟨some 35, _, _, _, _, _⟩) (v := ?va7) rfl (by kernel_rfl) (by kernel_rfl) (by kernel_rfl) (fun _ _ _ h => h) (Or.inl ⟨by rfl, ?hya7⟩) hHeld ?rra7
       case hya7 => (intro w hSw; (try dsimp only at hSw); go_simp; try with_reducible rfl))
    | (refine wpAnyH_take (i := 7) (oi := ⟨some 35, _, _, _, _, _⟩) (v := undef) rfl (by kernel_rfl) (by kernel_rfl) (by kernel_rfl) (fun _ _ _ h => h) (Or.inr ⟨by rfl, rfl⟩) hHeld ?rra7)
  try simp only [Act.put, List.setIfInBounds_toArray, List.set_cons_zero, List.set_cons_succ]
  try rw [e1]
  refine wpAnyH_ready (rs := [4]) (by kernel_rfl) (by simp) ?_
  refine AllReadyH.cons (o := ⟨some 32, _, _, _, _, _⟩) rfl (fun K hK => ?_) AllReadyH.nil
  go_simp
  (go_at_call 11; refine (PK _).out.mono ?_; rintro e w' ⟨rfl, rfl⟩)
  refine hK.out _ _ (hHeld) (fun hHeld2 => ?_)
  clear hK K hHeld
  have hHeld := hHeld2
  clear hHeld2
  try simp only [Act.put, List.setIfInBounds_toArray, List.set_cons_zero, List.set_cons_succ]
  try rw [e1]
  first
    | (refine wpAnyH_take (i := 5) (oi := ⟨some 33, _, _, _, _, _⟩) (v := ?va5) rfl (by kernel_rfl) (by kernel_rfl) (by kernel_rfl) (fun _ _ _ h => h) (Or.inl ⟨by rfl, ?hya5⟩) hHeld ?rra5
       case hya5 => (intro w hSw; (try dsimp only at hSw); go_simp; try with_reducible rfl))
    | (refine wpAnyH_take (i := 5) (oi := ⟨some 33, _, _, _, _, _⟩) (v := undef) rfl (by kernel_rfl) (by kernel_rfl) (by kernel_rfl) (fun _ _ _ h => h) (Or.inr ⟨by rfl, rfl⟩) hHeld ?rra5)
  try simp only [Act.put, List.setIfInBounds_toArray, List.set_cons_zero, List.set_cons_succ]
  try rw [e1]
  refine wpAnyH_ready (rs := [8]) (by kernel_rfl) (by simp) ?_
  refine AllReadyH.cons (o := ⟨some 36, _, _, _, _, _⟩) rfl (fun K hK => ?_) AllReadyH.nil
  go_simp
  (go_at_call 12; refine (NG _).out.mono ?_; rintro e w4 ⟨rfl, hb4⟩)
  refine hK.out _ _ (keep8 hHeld hb4) (fun hHeld2 => ?_)
  clear hK K hHeld
  have hHeld := hHeld2
  clear hHeld2
  try simp only [Act.put, List.setIfInBounds_toArray, List.set_cons_zero, List.set_cons_succ]
  try rw [e1]
  refine wpAnyH_ready (rs := [9]) (by kernel_rfl) (by simp) ?_
  refine AllReadyH.cons (o := ⟨none, _, _, _, _, _⟩) rfl (fun K hK => ?_) AllReadyH.nil
  have hBefore := hHeld
  obtain ⟨-, -, -, -, -, hs0, hs1, hf0, hf1⟩ := id hHeld
  obtain ⟨u0, hu0⟩ := Option.isSome_iff_exists.1 hs0
  obtain ⟨u1, hu1⟩ := Option.isSome_iff_exists.1 hs1
  go_simp
  refine hK.out _ _ (keep8s hHeld hPQ hMQ _ _) (fun hHeld2 => ?_)
  clear hK K hHeld
  have hHeld := hHeld2
  clear hHeld2
  try simp only [Act.put, List.setIfInBounds_toArray, List.set_cons_zero, List.set_cons_succ]
  try rw [e1]
  refine wpAnyH_done (by kernel_rfl) ?_ _
  refine NoPanic.normal ?_
  obtain ⟨g0, g1⟩ := two_sets hu0 hu1 (.int .i64 C) (.int .i64 D)
  obtain ⟨hT, p0, p1, -, -, -, -, -, -⟩ := hHeld
  clear hBefore hs0 hs1 hf0 hf1 hu0 hu1 hK h3a q0 q1 z0 z1 m0 m1 PK NG e1
  have q0 := g0
  have q1 := g1
  clear g0 g1
  obtain ⟨W5, hW5⟩ : ∃ W, (w4.setCell ⟨Q, 0, none⟩ (.int .i64 C)).setCell ⟨Q, 1, none⟩ (.int .i64 D) = W := ⟨_, rfl⟩
  rw [hW5] at hT p0 p1 q0 q1
  rw [hW5]
  clear hW5
  go_wp2_with fail
  refine (X1 _).out.mono ?_
  rintro e v0 ⟨rfl, hv0⟩
  replace p0 := kc hv0 p0
  replace p1 := kc hv0 p1
  replace q0 := kc hv0 q0
  replace q1 := kc hv0 q1
  replace hT := hT.trans (hv0.mono hT.size)
  clear hv0
  go_wp2_with fail
  refine wp_region_noPanic ?_
  refine wp_region_held_drew (S := fun w' => Below w.heap.size w w' ∧ w'.cell? ⟨P, 0, none⟩ = some (.int .i64 A) ∧ w'.cell? ⟨P, 1, none⟩ = some (.int .i64 B) ∧ w'.cell? ⟨Q, 0, none⟩ = some (.int .i64 C) ∧ w'.cell? ⟨Q, 1, none⟩ = some (.int .i64 D)) (by kernel_rfl) (⟨hT.drew, p0, p1, q0, q1⟩) (fun hHeld => ?_)
  first
    | (refine wpAnyH_take (i := 0) (oi := ⟨some 41, _, _, _, _, _⟩) (v := ?vr0) rfl (by kernel_rfl) (by kernel_rfl) (by kernel_rfl) (fun _ _ _ h => h) (Or.inl ⟨by rfl, ?hyr0⟩) hHeld ?rrr0
       case hyr0 => (intro w hSw; (try dsimp only at hSw); go_simp; try with_reducible rfl))
    | (refine wpAnyH_take (i := 0) (oi := ⟨some 41, _, _, _, _, _⟩) (v := undef) rfl (by kernel_rfl) (by kernel_rfl) (by kernel_rfl) (fun _ _ _ h => h) (Or.inr ⟨by rfl, rfl⟩) hHeld ?rrr0)
  try simp only [Act.put, List.setIfInBounds_toArray, List.set_cons_zero, List.set_cons_succ]
  first
    | (refine wpAnyH_take (i := 1) (oi := ⟨some 42, _, _, _, _, _⟩) (v := ?vr1) rfl (by kernel_rfl) (by kernel_rfl) (by kernel_rfl) (fun _ _ _ h => h) (Or.inl ⟨by rfl, ?hyr1⟩) hHeld ?rrr1
       case hyr1 => (intro w hSw; (try dsimp only at hSw); go_simp; try with_reducible rfl))
    | (refine wpAnyH_take (i := 1) (oi := ⟨some 42, _, _, _, _, _⟩) (v := undef) rfl (by kernel_rfl) (by kernel_rfl) (by kernel_rfl) (fun _ _ _ h => h) (Or.inr ⟨by rfl, rfl⟩) hHeld ?rrr1)
  try simp only [Act.put, List.setIfInBounds_toArray, List.set_cons_zero, List.set_cons_succ]
  refine wpAnyH_ready (rs := [2]) (by kernel_rfl) (by simp) ?_
  refine AllReadyH.cons (o := ⟨some 43, _, _, _, _, _⟩) rfl (fun K hK => ?_) AllReadyH.nil
  go_simp
  (go_at_call 22; refine (LQ _).out.mono ?_; rintro e w6 ⟨rfl, hb6⟩)
  refine hK.out _ _ (keep4 hHeld hb6) (fun hHeld2 => ?_)
  clear hK K hHeld
  have hHeld := hHeld2
  clear hHeld2
  try simp only [Act.put, List.setIfInBounds_toArray, List.set_cons_zero, List.set_cons_succ]
  refine wpAnyH_ready (rs := [3]) (by kernel_rfl) (by simp) ?_
  refine AllReadyH.cons (o := ⟨some 44, _, _, _, _, _⟩) rfl (fun K hK => ?_) AllReadyH.nil
  go_simp
  (go_at_call 24; refine (X2 _).out.mono ?_; rintro e w7 ⟨rfl, hb7⟩)
  refine hK.out _ _ (keep4 hHeld hb7) (fun hHeld2 => ?_)
  clear hK K hHeld
  have hHeld := hHeld2
  clear hHeld2
  try simp only [Act.put, List.setIfInBounds_toArray, List.set_cons_zero, List.set_cons_succ]
  first
    | (refine wpAnyH_take (i := 4) (oi := ⟨some 11, _, _, _, _, _⟩) (v := ?vr4) rfl (by kernel_rfl) (by kernel_rfl) (by kernel_rfl) (fun _ _ _ h => h) (Or.inl ⟨by rfl, ?hyr4⟩) hHeld ?rrr4
       case hyr4 => (intro w hSw; (try dsimp only at hSw); go_simp; try with_reducible rfl))
    | (refine wpAnyH_take (i := 4) (oi := ⟨some 11, _, _, _, _, _⟩) (v := undef) rfl (by kernel_rfl) (by kernel_rfl) (by kernel_rfl) (fun _ _ _ h => h) (Or.inr ⟨by rfl, rfl⟩) hHeld ?rrr4)
  try simp only [Act.put, List.setIfInBounds_toArray, List.set_cons_zero, List.set_cons_succ]
  refine wpAnyH_done (by kernel_rfl) ?_ _
  refine NoPanic.normal ?_
  clear hb6 hb7 hT p0 p1 q0 q1
  obtain ⟨hT, p0, p1, q0, q1⟩ := hHeld
  go_wp2_with fail
  refine (X3 _).out.mono ?_
  rintro e v1 ⟨rfl, hv1⟩
  replace p0 := kc hv1 p0
  replace p1 := kc hv1 p1
  replace q0 := kc hv1 q0
  replace q1 := kc hv1 q1
  replace hT := hT.trans (hv1.mono hT.size)
  clear hv1
  go_wp2_with fail
  refine wp_region_noPanic ?_
  refine wp_region_held_drew (S := fun w' => Below w.heap.size w w' ∧ w'.cell? ⟨P, 0, none⟩ = some (.int .i64 A) ∧ w'.cell? ⟨P, 1, none⟩ = some (.int .i64 B) ∧ w'.cell? ⟨Q, 0, none⟩ = some (.int .i64 C) ∧ w'.cell? ⟨Q, 1, none⟩ = some (.int .i64 D)) (by kernel_rfl) (⟨hT.drew, p0, p1, q0, q1⟩) (fun hHeld => ?_)
  first
    | (refine wpAnyH_take (i := 0) (oi := ⟨some 49, _, _, _, _, _⟩) (v := ?vs0) rfl (by kernel_rfl) (by kernel_rfl) (by kernel_rfl) (fun _ _ _ h => h) (Or.inl ⟨by rfl, ?hys0⟩) hHeld ?rrs0
       case hys0 => (intro w hSw; (try dsimp only at hSw); go_simp; try with_reducible rfl))
    | (refine wpAnyH_take (i := 0) (oi := ⟨some 49, _, _, _, _, _⟩) (v := undef) rfl (by kernel_rfl) (by kernel_rfl) (by kernel_rfl) (fun _ _ _ h => h) (Or.inr ⟨by rfl, rfl⟩) hHeld ?rrs0)
  try simp only [Act.put, List.setIfInBounds_toArray, List.set_cons_zero, List.set_cons_succ]
  first
    | (refine wpAnyH_take (i := 1) (oi := ⟨some 50, _, _, _, _, _⟩) (v := ?vs1) rfl (by kernel_rfl) (by kernel_rfl) (by kernel_rfl) (fun _ _ _ h => h) (Or.inl ⟨by rfl, ?hys1⟩) hHeld ?rrs1
       case hys1 => (intro w hSw; (try dsimp only at hSw); go_simp; try with_reducible rfl))
    | (refine wpAnyH_take (i := 1) (oi := ⟨some 50, _, _, _, _, _⟩) (v := undef) rfl (by kernel_rfl) (by kernel_rfl) (by kernel_rfl) (fun _ _ _ h => h) (Or.inr ⟨by rfl, rfl⟩) hHeld ?rrs1)
  try simp only [Act.put, List.setIfInBounds_toArray, List.set_cons_zero, List.set_cons_succ]
  refine wpAnyH_ready (rs := [2]) (by kernel_rfl) (by simp) ?_
  refine AllReadyH.cons (o := ⟨some 51, _, _, _, _, _⟩) rfl (fun K hK => ?_) AllReadyH.nil
  go_simp
  (go_at_call 22; refine (LP _).out.mono ?_; rintro e w6 ⟨rfl, hb6⟩)
  refine hK.out _ _ (keep4 hHeld hb6) (fun hHeld2 => ?_)
  clear hK K hHeld
  have hHeld := hHeld2
  clear hHeld2
  try simp only [Act.put, List.setIfInBounds_toArray, List.set_cons_zero, List.set_cons_succ]
  refine wpAnyH_ready (rs := [3]) (by kernel_rfl) (by simp) ?_
  refine AllReadyH.cons (o := ⟨some 52, _, _, _, _, _⟩) rfl (fun K hK => ?_) AllReadyH.nil
  go_simp
  (go_at_call 24; refine (X4 _).out.mono ?_; rintro e w7 ⟨rfl, hb7⟩)
  refine hK.out _ _ (keep4 hHeld hb7) (fun hHeld2 => ?_)
  clear hK K hHeld
  have hHeld := hHeld2
  clear hHeld2
  try simp only [Act.put, List.setIfInBounds_toArray, List.set_cons_zero, List.set_cons_succ]
  first
    | (refine wpAnyH_take (i := 4) (oi := ⟨some 13, _, _, _, _, _⟩) (v := ?vs4) rfl (by kernel_rfl) (by kernel_rfl) (by kernel_rfl) (fun _ _ _ h => h) (Or.inl ⟨by rfl, ?hys4⟩) hHeld ?rrs4
       case hys4 => (intro w hSw; (try dsimp only at hSw); go_simp; try with_reducible rfl))
    | (refine wpAnyH_take (i := 4) (oi := ⟨some 13, _, _, _, _, _⟩) (v := undef) rfl (by kernel_rfl) (by kernel_rfl) (by kernel_rfl) (fun _ _ _ h => h) (Or.inr ⟨by rfl, rfl⟩) hHeld ?rrs4)
  try simp only [Act.put, List.setIfInBounds_toArray, List.set_cons_zero, List.set_cons_succ]
  refine wpAnyH_done (by kernel_rfl) ?_ _
  refine NoPanic.normal ?_
  clear hb6 hb7 hT p0 p1 q0 q1
  obtain ⟨hT, p0, p1, q0, q1⟩ := hHeld
  go_wp2_with fail
  go_ret
  exact ⟨rfl, hT⟩

set_option maxRecDepth 20000 in
set_option maxHeartbeats 8000000 in
theorem nest_fa (na nb ma mb A B C D L M k C0 D0 : Int) (t3 t4 : Bool) (w : World) (E : Env w) (hBD : B ≤ D)
    (NE : ∀ w, Hid (Calls Tryd.prog 12 #[.int .i64 na, .int .i64 nb] w fun e w' => e = .returned (.agg #[.int .i64 A, .int .i64 B]) ∧ Below w.heap.size w w'))
    (NF : ∀ w, Hid (Calls Tryd.prog 12 #[.int .i64 ma, .int .i64 mb] w fun e w' => e = .returned (.agg #[.int .i64 C, .int .i64 D]) ∧ Below w.heap.size w w'))
    (X1 : ∀ w, Hid (Calls Tryd.prog 24 #[.agg #[.int .i64 A, .int .i64 B], .int .i64 C] w fun e w' => e = .returned (.bool true) ∧ Below w.heap.size w w'))
    (X2 : ∀ w, Hid (Calls Tryd.prog 24 #[.agg #[.int .i64 A, .int .i64 B], .int .i64 M] w fun e w' => e = .returned (.bool true) ∧ Below w.heap.size w w'))
    (X3 : ∀ w, Hid (Calls Tryd.prog 24 #[.agg #[.int .i64 C, .int .i64 D], .int .i64 A] w fun e w' => e = .returned (.bool t3) ∧ Below w.heap.size w w'))
    (X4 : ∀ w, Hid (Calls Tryd.prog 24 #[.agg #[.int .i64 C, .int .i64 D], .int .i64 L] w fun e w' => e = .returned (.bool t4) ∧ Below w.heap.size w w'))
    (LQ : ∀ w, Hid (Calls Tryd.prog 22 #[.agg #[.int .i64 C, .int .i64 D]] w fun e w' => e = .returned (.int .i64 M) ∧ Below w.heap.size w w'))
    (LP : ∀ w, Hid (Calls Tryd.prog 22 #[.agg #[.int .i64 A, .int .i64 B]] w fun e w' => e = .returned (.int .i64 L) ∧ Below w.heap.size w w')) :
    Calls Tryd.prog 7 #[.agg #[.int .i64 na, .int .i64 nb], .agg #[.int .i64 ma, .int .i64 mb], .bool false] w fun e w' => e = .returned (.bool true) ∧ Below w.heap.size w w' := by
  have EX := fun w E => Lib.hid (ex_any w E)
  have HE := Lib.hid E
  clear E
  go_enter Tryd.func7, Tryd.ntmps7
  go_wp2_with fail
  have hb0 := ((Below.refl w.heap.size w).alloc (Nat.le_refl _) (.cells #[.int .i64 na, .int .i64 nb] 23)).alloc (by simp) (.cells #[.int .i64 ma, .int .i64 mb] 23)
  have n0 : ((w.alloc (.cells #[.int .i64 na, .int .i64 nb] 23)).alloc (.cells #[.int .i64 ma, .int .i64 mb] 23)).cell? ⟨w.heap.size, 0, none⟩ = some (.int .i64 na) := by simp
  have n1 : ((w.alloc (.cells #[.int .i64 na, .int .i64 nb] 23)).alloc (.cells #[.int .i64 ma, .int .i64 mb] 23)).cell? ⟨w.heap.size, 1, none⟩ = some (.int .i64 nb) := by simp
  have m0 : ((w.alloc (.cells #[.int .i64 na, .int .i64 nb] 23)).alloc (.cells #[.int .i64 ma, .int .i64 mb] 23)).cell? ⟨w.heap.size + 1, 0, none⟩ = some (.int .i64 ma) := by simp
  have m1 : ((w.alloc (.cells #[.int .i64 na, .int .i64 nb] 23)).alloc (.cells #[.int .i64 ma, .int .i64 mb] 23)).cell? ⟨w.heap.size + 1, 1, none⟩ = some (.int .i64 mb) := by simp
  refine (EX _ (HE.out.stay hb0)).out.mono ?_
  rintro e w1 ⟨rfl, hb1⟩
  replace n0 := kc hb1 n0
  replace n1 := kc hb1 n1
  replace m0 := kc hb1 m0
  replace m1 := kc hb1 m1
  have h1 := hb0.trans (hb1.mono hb0.size)
  clear hb0 hb1
  go_wp2_with fail
  refine (NE _).out.mono ?_
  rintro e w2 ⟨rfl, hb2⟩
  replace m0 := ka (.cells #[.int .i64 A, .int .i64 B] 23) (kc hb2 m0)
  replace m1 := ka (.cells #[.int .i64 A, .int .i64 B] 23) (kc hb2 m1)
  have h2 := (h1.trans (hb2.mono h1.size))
  have h2a := h2.alloc h2.size (.cells #[.int .i64 A, .int .i64 B] 23)
  have p0 : (w2.alloc (.cells #[.int .i64 A, .int .i64 B] 23)).cell? ⟨w2.heap.size, 0, none⟩ = some (.int .i64 A) := by simp
  have p1 : (w2.alloc (.cells #[.int .i64 A, .int .i64 B] 23)).cell? ⟨w2.heap.size, 1, none⟩ = some (.int .i64 B) := by simp
  clear n0 n1 h1 hb2 h2
  obtain ⟨P, hP⟩ : ∃ P, w2.heap.size = P := ⟨_, rfl⟩
  rw [hP] at p0 p1
  have HP := Lib.hid hP
  clear hP
  go_wp2_with fail
  rw [HP.out]
  refine (NF _).out.mono ?_
  rintro e w3 ⟨rfl, hb3⟩
  have m0' := m0
  have p0' := p0
  replace m0 := ka (.cells #[.int .i64 C, .int .i64 D] 23) (kc hb3 m0)
  replace m1 := ka (.cells #[.int .i64 C, .int .i64 D] 23) (kc hb3 m1)
  replace p0 := ka (.cells #[.int .i64 C, .int .i64 D] 23) (kc hb3 p0)
  replace p1 := ka (.cells #[.int .i64 C, .int .i64 D] 23) (kc hb3 p1)
  have h3 := (h2a.trans (hb3.mono h2a.size))
  have h3a := h3.alloc h3.size (.cells #[.int .i64 C, .int .i64 D] 23)
  have q0 : (w3.alloc (.cells #[.int .i64 C, .int .i64 D] 23)).cell? ⟨w3.heap.size, 0, none⟩ = some (.int .i64 C) := by simp
  have q1 : (w3.alloc (.cells #[.int .i64 C, .int .i64 D] 23)).cell? ⟨w3.heap.size, 1, none⟩ = some (.int .i64 D) := by simp
  have hT := h3a
  clear h2a hb3 h3 m0 m1 m0' p0' h3a
  go_wp2_with fail
  obtain ⟨Q, hQ⟩ : ∃ Q, w3.heap.size = Q := ⟨_, rfl⟩
  rw [hQ] at q0 q1
  rw [hQ]
  clear hQ
  obtain ⟨W3, hW3⟩ : ∃ W, w3.alloc (.cells #[.int .i64 C, .int .i64 D] 23) = W := ⟨_, rfl⟩
  rw [hW3] at p0 p1 q0 q1 hT
  rw [hW3]
  clear hW3 HE EX NE NF
  refine (X1 _).out.mono ?_
  rintro e v0 ⟨rfl, hv0⟩
  replace p0 := kc hv0 p0
  replace p1 := kc hv0 p1
  replace q0 := kc hv0 q0
  replace q1 := kc hv0 q1
  replace hT := hT.trans (hv0.mono hT.size)
  clear hv0
  go_wp2_with fail
  refine wp_region_noPanic ?_
  refine wp_region_held_drew (S := fun w' => Below w.heap.size w w' ∧ w'.cell? ⟨P, 0, none⟩ = some (.int .i64 A) ∧ w'.cell? ⟨P, 1, none⟩ = some (.int .i64 B) ∧ w'.cell? ⟨Q, 0, none⟩ = some (.int .i64 C) ∧ w'.cell? ⟨Q, 1, none⟩ = some (.int .i64 D)) (by kernel_rfl) (⟨hT.drew, p0, p1, q0, q1⟩) (fun hHeld => ?_)
  first
    | (refine wpAnyH_take (i := 0) (oi := ⟨some 41, _, _, _, _, _⟩) (v := ?vr0) rfl (by kernel_rfl) (by kernel_rfl) (by kernel_rfl) (fun _ _ _ h => h) (Or.inl ⟨by rfl, ?hyr0⟩) hHeld ?rrr0
       case hyr0 => (intro w hSw; (try dsimp only at hSw); go_simp; try with_reducible rfl))
    | (refine wpAnyH_take (i := 0) (oi := ⟨some 41, _, _, _, _, _⟩) (v := undef) rfl (by kernel_rfl) (by kernel_rfl) (by kernel_rfl) (fun _ _ _ h => h) (Or.inr ⟨by rfl, rfl⟩) hHeld ?rrr0)
  try simp only [Act.put, List.setIfInBounds_toArray, List.set_cons_zero, List.set_cons_succ]
  first
    | (refine wpAnyH_take (i := 1) (oi := ⟨some 42, _, _, _, _, _⟩) (v := ?vr1) rfl (by kernel_rfl) (by kernel_rfl) (by kernel_rfl) (fun _ _ _ h => h) (Or.inl ⟨by rfl, ?hyr1⟩) hHeld ?rrr1
       case hyr1 => (intro w hSw; (try dsimp only at hSw); go_simp; try with_reducible rfl))
    | (refine wpAnyH_take (i := 1) (oi := ⟨some 42, _, _, _, _, _⟩) (v := undef) rfl (by kernel_rfl) (by kernel_rfl) (by kernel_rfl) (fun _ _ _ h => h) (Or.inr ⟨by rfl, rfl⟩) hHeld ?rrr1)
  try simp only [Act.put, List.setIfInBounds_toArray, List.set_cons_zero, List.set_cons_succ]
  refine wpAnyH_ready (rs := [2]) (by kernel_rfl) (by simp) ?_
  refine AllReadyH.cons (o := ⟨some 43, _, _, _, _, _⟩) rfl (fun K hK => ?_) AllReadyH.nil
  go_simp
  (go_at_call 22; refine (LQ _).out.mono ?_; rintro e w6 ⟨rfl, hb6⟩)
  refine hK.out _ _ (keep4 hHeld hb6) (fun hHeld2 => ?_)
  clear hK K hHeld
  have hHeld := hHeld2
  clear hHeld2
  try simp only [Act.put, List.setIfInBounds_toArray, List.set_cons_zero, List.set_cons_succ]
  refine wpAnyH_ready (rs := [3]) (by kernel_rfl) (by simp) ?_
  refine AllReadyH.cons (o := ⟨some 44, _, _, _, _, _⟩) rfl (fun K hK => ?_) AllReadyH.nil
  go_simp
  (go_at_call 24; refine (X2 _).out.mono ?_; rintro e w7 ⟨rfl, hb7⟩)
  refine hK.out _ _ (keep4 hHeld hb7) (fun hHeld2 => ?_)
  clear hK K hHeld
  have hHeld := hHeld2
  clear hHeld2
  try simp only [Act.put, List.setIfInBounds_toArray, List.set_cons_zero, List.set_cons_succ]
  first
    | (refine wpAnyH_take (i := 4) (oi := ⟨some 11, _, _, _, _, _⟩) (v := ?vr4) rfl (by kernel_rfl) (by kernel_rfl) (by kernel_rfl) (fun _ _ _ h => h) (Or.inl ⟨by rfl, ?hyr4⟩) hHeld ?rrr4
       case hyr4 => (intro w hSw; (try dsimp only at hSw); go_simp; try with_reducible rfl))
    | (refine wpAnyH_take (i := 4) (oi := ⟨some 11, _, _, _, _, _⟩) (v := undef) rfl (by kernel_rfl) (by kernel_rfl) (by kernel_rfl) (fun _ _ _ h => h) (Or.inr ⟨by rfl, rfl⟩) hHeld ?rrr4)
  try simp only [Act.put, List.setIfInBounds_toArray, List.set_cons_zero, List.set_cons_succ]
  refine wpAnyH_done (by kernel_rfl) ?_ _
  refine NoPanic.normal ?_
  clear hb6 hb7 hT p0 p1 q0 q1
  obtain ⟨hT, p0, p1, q0, q1⟩ := hHeld
  go_wp2_with fail
  refine (X3 _).out.mono ?_
  rintro e v1 ⟨rfl, hv1⟩
  replace p0 := kc hv1 p0
  replace p1 := kc hv1 p1
  replace q0 := kc hv1 q0
  replace q1 := kc hv1 q1
  replace hT := hT.trans (hv1.mono hT.size)
  clear hv1
  go_wp2_with fail
  refine wp_region_noPanic ?_
  refine wp_region_held_drew (S := fun w' => Below w.heap.size w w' ∧ w'.cell? ⟨P, 0, none⟩ = some (.int .i64 A) ∧ w'.cell? ⟨P, 1, none⟩ = some (.int .i64 B) ∧ w'.cell? ⟨Q, 0, none⟩ = some (.int .i64 C) ∧ w'.cell? ⟨Q, 1, none⟩ = some (.int .i64 D)) (by kernel_rfl) (⟨hT.drew, p0, p1, q0, q1⟩) (fun hHeld => ?_)
  first
    | (refine wpAnyH_take (i := 0) (oi := ⟨some 49, _, _, _, _, _⟩) (v := ?vs0) rfl (by kernel_rfl) (by kernel_rfl) (by kernel_rfl) (fun _ _ _ h => h) (Or.inl ⟨by rfl, ?hys0⟩) hHeld ?rrs0
       case hys0 => (intro w hSw; (try dsimp only at hSw); go_simp; try with_reducible rfl))
    | (refine wpAnyH_take (i := 0) (oi := ⟨some 49, _, _, _, _, _⟩) (v := undef) rfl (by kernel_rfl) (by kernel_rfl) (by kernel_rfl) (fun _ _ _ h => h) (Or.inr ⟨by rfl, rfl⟩) hHeld ?rrs0)
  try simp only [Act.put, List.setIfInBounds_toArray, List.set_cons_zero, List.set_cons_succ]
  first
    | (refine wpAnyH_take (i := 1) (oi := ⟨some 50, _, _, _, _, _⟩) (v := ?vs1) rfl (by kernel_rfl) (by kernel_rfl) (by kernel_rfl) (fun _ _ _ h => h) (Or.inl ⟨by rfl, ?hys1⟩) hHeld ?rrs1
       case hys1 => (intro w hSw; (try dsimp only at hSw); go_simp; try with_reducible rfl))
    | (refine wpAnyH_take (i := 1) (oi := ⟨some 50, _, _, _, _, _⟩) (v := undef) rfl (by kernel_rfl) (by kernel_rfl) (by kernel_rfl) (fun _ _ _ h => h) (Or.inr ⟨by rfl, rfl⟩) hHeld ?rrs1)
  try simp only [Act.put, List.setIfInBounds_toArray, List.set_cons_zero, List.set_cons_succ]
  refine wpAnyH_ready (rs := [2]) (by kernel_rfl) (by simp) ?_
  refine AllReadyH.cons (o := ⟨some 51, _, _, _, _, _⟩) rfl (fun K hK => ?_) AllReadyH.nil
  go_simp
  (go_at_call 22; refine (LP _).out.mono ?_; rintro e w6 ⟨rfl, hb6⟩)
  refine hK.out _ _ (keep4 hHeld hb6) (fun hHeld2 => ?_)
  clear hK K hHeld
  have hHeld := hHeld2
  clear hHeld2
  try simp only [Act.put, List.setIfInBounds_toArray, List.set_cons_zero, List.set_cons_succ]
  refine wpAnyH_ready (rs := [3]) (by kernel_rfl) (by simp) ?_
  refine AllReadyH.cons (o := ⟨some 52, _, _, _, _, _⟩) rfl (fun K hK => ?_) AllReadyH.nil
  go_simp
  (go_at_call 24; refine (X4 _).out.mono ?_; rintro e w7 ⟨rfl, hb7⟩)
  refine hK.out _ _ (keep4 hHeld hb7) (fun hHeld2 => ?_)
  clear hK K hHeld
  have hHeld := hHeld2
  clear hHeld2
  try simp only [Act.put, List.setIfInBounds_toArray, List.set_cons_zero, List.set_cons_succ]
  first
    | (refine wpAnyH_take (i := 4) (oi := ⟨some 13, _, _, _, _, _⟩) (v := ?vs4) rfl (by kernel_rfl) (by kernel_rfl) (by kernel_rfl) (fun _ _ _ h => h) (Or.inl ⟨by rfl, ?hys4⟩) hHeld ?rrs4
       case hys4 => (intro w hSw; (try dsimp only at hSw); go_simp; try with_reducible rfl))
    | (refine wpAnyH_take (i := 4) (oi := ⟨some 13, _, _, _, _, _⟩) (v := undef) rfl (by kernel_rfl) (by kernel_rfl) (by kernel_rfl) (fun _ _ _ h => h) (Or.inr ⟨by rfl, rfl⟩) hHeld ?rrs4)
  try simp only [Act.put, List.setIfInBounds_toArray, List.set_cons_zero, List.set_cons_succ]
  refine wpAnyH_done (by kernel_rfl) ?_ _
  refine NoPanic.normal ?_
  clear hb6 hb7 hT p0 p1 q0 q1
  obtain ⟨hT, p0, p1, q0, q1⟩ := hHeld
  go_wp2_with fail
  go_ret
  exact ⟨rfl, hT⟩

set_option maxRecDepth 20000 in
set_option maxHeartbeats 8000000 in
theorem nest_fb (na nb ma mb A B C D L M k C0 D0 : Int) (w : World) (E : Env w) (hBD : B ≤ D)
    (NE : ∀ w, Hid (Calls Tryd.prog 12 #[.int .i64 na, .int .i64 nb] w fun e w' => e = .returned (.agg #[.int .i64 A, .int .i64 B]) ∧ Below w.heap.size w w'))
    (NF : ∀ w, Hid (Calls Tryd.prog 12 #[.int .i64 ma, .int .i64 mb] w fun e w' => e = .returned (.agg #[.int .i64 C, .int .i64 D]) ∧ Below w.heap.size w w'))
    (X1 : ∀ w, Hid (Calls Tryd.prog 24 #[.agg #[.int .i64 A, .int .i64 B], .int .i64 C] w fun e w' => e = .returned (.bool false) ∧ Below w.heap.size w w'))
    (X2 : ∀ w, Hid (Calls Tryd.prog 24 #[.agg #[.int .i64 A, .int .i64 B], .int .i64 M] w fun e w' => e = .returned (.bool false) ∧ Below w.heap.size w w'))
    (X3 : ∀ w, Hid (Calls Tryd.prog 24 #[.agg #[.int .i64 C, .int .i64 D], .int .i64 A] w fun e w' => e = .returned (.bool false) ∧ Below w.heap.size w w'))
    (X4 : ∀ w, Hid (Calls Tryd.prog 24 #[.agg #[.int .i64 C, .int .i64 D], .int .i64 L] w fun e w' => e = .returned (.bool false) ∧ Below w.heap.size w w'))
    (LQ : ∀ w, Hid (Calls Tryd.prog 22 #[.agg #[.int .i64 C, .int .i64 D]] w fun e w' => e = .returned (.int .i64 M) ∧ Below w.heap.size w w'))
    (LP : ∀ w, Hid (Calls Tryd.prog 22 #[.agg #[.int .i64 A, .int .i64 B]] w fun e w' => e = .returned (.int .i64 L) ∧ Below w.heap.size w w')) :
    Calls Tryd.prog 7 #[.agg #[.int .i64 na, .int .i64 nb], .agg #[.int .i64 ma, .int .i64 mb], .bool false] w fun e w' => e = .returned (.bool true) ∧ Below w.heap.size w w' := by
  have EX := fun w E => Lib.hid (ex_any w E)
  have HE := Lib.hid E
  clear E
  go_enter Tryd.func7, Tryd.ntmps7
  go_wp2_with fail
  have hb0 := ((Below.refl w.heap.size w).alloc (Nat.le_refl _) (.cells #[.int .i64 na, .int .i64 nb] 23)).alloc (by simp) (.cells #[.int .i64 ma, .int .i64 mb] 23)
  have n0 : ((w.alloc (.cells #[.int .i64 na, .int .i64 nb] 23)).alloc (.cells #[.int .i64 ma, .int .i64 mb] 23)).cell? ⟨w.heap.size, 0, none⟩ = some (.int .i64 na) := by simp
  have n1 : ((w.alloc (.cells #[.int .i64 na, .int .i64 nb] 23)).alloc (.cells #[.int .i64 ma, .int .i64 mb] 23)).cell? ⟨w.heap.size, 1, none⟩ = some (.int .i64 nb) := by simp
  have m0 : ((w.alloc (.cells #[.int .i64 na, .int .i64 nb] 23)).alloc (.cells #[.int .i64 ma, .int .i64 mb] 23)).cell? ⟨w.heap.size + 1, 0, none⟩ = some (.int .i64 ma) := by simp
  have m1 : ((w.alloc (.cells #[.int .i64 na, .int .i64 nb] 23)).alloc (.cells #[.int .i64 ma, .int .i64 mb] 23)).cell? ⟨w.heap.size + 1, 1, none⟩ = some (.int .i64 mb) := by simp
  refine (EX _ (HE.out.stay hb0)).out.mono ?_
  rintro e w1 ⟨rfl, hb1⟩
  replace n0 := kc hb1 n0
  replace n1 := kc hb1 n1
  replace m0 := kc hb1 m0
  replace m1 := kc hb1 m1
  have h1 := hb0.trans (hb1.mono hb0.size)
  clear hb0 hb1
  go_wp2_with fail
  refine (NE _).out.mono ?_
  rintro e w2 ⟨rfl, hb2⟩
  replace m0 := ka (.cells #[.int .i64 A, .int .i64 B] 23) (kc hb2 m0)
  replace m1 := ka (.cells #[.int .i64 A, .int .i64 B] 23) (kc hb2 m1)
  have h2 := (h1.trans (hb2.mono h1.size))
  have h2a := h2.alloc h2.size (.cells #[.int .i64 A, .int .i64 B] 23)
  have p0 : (w2.alloc (.cells #[.int .i64 A, .int .i64 B] 23)).cell? ⟨w2.heap.size, 0, none⟩ = some (.int .i64 A) := by simp
  have p1 : (w2.alloc (.cells #[.int .i64 A, .int .i64 B] 23)).cell? ⟨w2.heap.size, 1, none⟩ = some (.int .i64 B) := by simp
  clear n0 n1 h1 hb2 h2
  obtain ⟨P, hP⟩ : ∃ P, w2.heap.size = P := ⟨_, rfl⟩
  rw [hP] at p0 p1
  have HP := Lib.hid hP
  clear hP
  go_wp2_with fail
  rw [HP.out]
  refine (NF _).out.mono ?_
  rintro e w3 ⟨rfl, hb3⟩
  have m0' := m0
  have p0' := p0
  replace m0 := ka (.cells #[.int .i64 C, .int .i64 D] 23) (kc hb3 m0)
  replace m1 := ka (.cells #[.int .i64 C, .int .i64 D] 23) (kc hb3 m1)
  replace p0 := ka (.cells #[.int .i64 C, .int .i64 D] 23) (kc hb3 p0)
  replace p1 := ka (.cells #[.int .i64 C, .int .i64 D] 23) (kc hb3 p1)
  have h3 := (h2a.trans (hb3.mono h2a.size))
  have h3a := h3.alloc h3.size (.cells #[.int .i64 C, .int .i64 D] 23)
  have q0 : (w3.alloc (.cells #[.int .i64 C, .int .i64 D] 23)).cell? ⟨w3.heap.size, 0, none⟩ = some (.int .i64 C) := by simp
  have q1 : (w3.alloc (.cells #[.int .i64 C, .int .i64 D] 23)).cell? ⟨w3.heap.size, 1, none⟩ = some (.int .i64 D) := by simp
  have hT := h3a
  clear h2a hb3 h3 m0 m1 m0' p0' h3a
  go_wp2_with fail
  obtain ⟨Q, hQ⟩ : ∃ Q, w3.heap.size = Q := ⟨_, rfl⟩
  rw [hQ] at q0 q1
  rw [hQ]
  clear hQ
  obtain ⟨W3, hW3⟩ : ∃ W, w3.alloc (.cells #[.int .i64 C, .int .i64 D] 23) = W := ⟨_, rfl⟩
  rw [hW3] at p0 p1 q0 q1 hT
  rw [hW3]
  clear hW3 HE EX NE NF
  refine (X1 _).out.mono ?_
  rintro e v0 ⟨rfl, hv0⟩
  replace p0 := kc hv0 p0
  replace p1 := kc hv0 p1
  replace q0 := kc hv0 q0
  replace q1 := kc hv0 q1
  replace hT := hT.trans (hv0.mono hT.size)
  clear hv0
  go_wp2_with fail
  refine wp_region_noPanic ?_
  refine wp_region_held_drew (S := fun w' => Below w.heap.size w w' ∧ w'.cell? ⟨P, 0, none⟩ = some (.int .i64 A) ∧ w'.cell? ⟨P, 1, none⟩ = some (.int .i64 B) ∧ w'.cell? ⟨Q, 0, none⟩ = some (.int .i64 C) ∧ w'.cell? ⟨Q, 1, none⟩ = some (.int .i64 D)) (by kernel_rfl) (⟨hT.drew, p0, p1, q0, q1⟩) (fun hHeld => ?_)
  first
    | (refine wpAnyH_take (i := 0) (oi := ⟨some 41, _, _, _, _, _⟩) (v := ?vr0) rfl (by kernel_rfl) (by kernel_rfl) (by kernel_rfl) (fun _ _ _ h => h) (Or.inl ⟨by rfl, ?hyr0⟩) hHeld ?rrr0
       case hyr0 => (intro w hSw; (try dsimp only at hSw); go_simp; try with_reducible rfl))
    | (refine wpAnyH_take (i := 0) (oi := ⟨some 41, _, _, _, _, _⟩) (v := undef) rfl (by kernel_rfl) (by kernel_rfl) (by kernel_rfl) (fun _ _ _ h => h) (Or.inr ⟨by rfl, rfl⟩) hHeld ?rrr0)
  try simp only [Act.put, List.setIfInBounds_toArray, List.set_cons_zero, List.set_cons_succ]
  first
    | (refine wpAnyH_take (i := 1) (oi := ⟨some 42, _, _, _, _, _⟩) (v := ?vr1) rfl (by kernel_rfl) (by kernel_rfl) (by kernel_rfl) (fun _ _ _ h => h) (Or.inl ⟨by rfl, ?hyr1⟩) hHeld ?rrr1
       case hyr1 => (intro w hSw; (try dsimp only at hSw); go_simp; try with_reducible rfl))
    | (refine wpAnyH_take (i := 1) (oi := ⟨some 42, _, _, _, _, _⟩) (v := undef) rfl (by kernel_rfl) (by kernel_rfl) (by kernel_rfl) (fun _ _ _ h => h) (Or.inr ⟨by rfl, rfl⟩) hHeld ?rrr1)
  try simp only [Act.put, List.setIfInBounds_toArray, List.set_cons_zero, List.set_cons_succ]
  refine wpAnyH_ready (rs := [2]) (by kernel_rfl) (by simp) ?_
  refine AllReadyH.cons (o := ⟨some 43, _, _, _, _, _⟩) rfl (fun K hK => ?_) AllReadyH.nil
  go_simp
  (go_at_call 22; refine (LQ _).out.mono ?_; rintro e w6 ⟨rfl, hb6⟩)
  refine hK.out _ _ (keep4 hHeld hb6) (fun hHeld2 => ?_)
  clear hK K hHeld
  have hHeld := hHeld2
  clear hHeld2
  try simp only [Act.put, List.setIfInBounds_toArray, List.set_cons_zero, List.set_cons_succ]
  refine wpAnyH_ready (rs := [3]) (by kernel_rfl) (by simp) ?_
  refine AllReadyH.cons (o := ⟨some 44, _, _, _, _, _⟩) rfl (fun K hK => ?_) AllReadyH.nil
  go_simp
  (go_at_call 24; refine (X2 _).out.mono ?_; rintro e w7 ⟨rfl, hb7⟩)
  refine hK.out _ _ (keep4 hHeld hb7) (fun hHeld2 => ?_)
  clear hK K hHeld
  have hHeld := hHeld2
  clear hHeld2
  try simp only [Act.put, List.setIfInBounds_toArray, List.set_cons_zero, List.set_cons_succ]
  first
    | (refine wpAnyH_take (i := 4) (oi := ⟨some 11, _, _, _, _, _⟩) (v := ?vr4) rfl (by kernel_rfl) (by kernel_rfl) (by kernel_rfl) (fun _ _ _ h => h) (Or.inl ⟨by rfl, ?hyr4⟩) hHeld ?rrr4
       case hyr4 => (intro w hSw; (try dsimp only at hSw); go_simp; try with_reducible rfl))
    | (refine wpAnyH_take (i := 4) (oi := ⟨some 11, _, _, _, _, _⟩) (v := undef) rfl (by kernel_rfl) (by kernel_rfl) (by kernel_rfl) (fun _ _ _ h => h) (Or.inr ⟨by rfl, rfl⟩) hHeld ?rrr4)
  try simp only [Act.put, List.setIfInBounds_toArray, List.set_cons_zero, List.set_cons_succ]
  refine wpAnyH_done (by kernel_rfl) ?_ _
  refine NoPanic.normal ?_
  clear hb6 hb7 hT p0 p1 q0 q1
  obtain ⟨hT, p0, p1, q0, q1⟩ := hHeld
  go_wp2_with fail
  refine (X3 _).out.mono ?_
  rintro e v1 ⟨rfl, hv1⟩
  replace p0 := kc hv1 p0
  replace p1 := kc hv1 p1
  replace q0 := kc hv1 q0
  replace q1 := kc hv1 q1
  replace hT := hT.trans (hv1.mono hT.size)
  clear hv1
  go_wp2_with fail
  refine wp_region_noPanic ?_
  refine wp_region_held_drew (S := fun w' => Below w.heap.size w w' ∧ w'.cell? ⟨P, 0, none⟩ = some (.int .i64 A) ∧ w'.cell? ⟨P, 1, none⟩ = some (.int .i64 B) ∧ w'.cell? ⟨Q, 0, none⟩ = some (.int .i64 C) ∧ w'.cell? ⟨Q, 1, none⟩ = some (.int .i64 D)) (by kernel_rfl) (⟨hT.drew, p0, p1, q0, q1⟩) (fun hHeld => ?_)
  first
    | (refine wpAnyH_take (i := 0) (oi := ⟨some 49, _, _, _, _, _⟩) (v := ?vs0) rfl (by kernel_rfl) (by kernel_rfl) (by kernel_rfl) (fun _ _ _ h => h) (Or.inl ⟨by rfl, ?hys0⟩) hHeld ?rrs0
       case hys0 => (intro w hSw; (try dsimp only at hSw); go_simp; try with_reducible rfl))
    | (refine wpAnyH_take (i := 0) (oi := ⟨some 49, _, _, _, _, _⟩) (v := undef) rfl (by kernel_rfl) (by kernel_rfl) (by kernel_rfl) (fun _ _ _ h => h) (Or.inr ⟨by rfl, rfl⟩) hHeld ?rrs0)
  try simp only [Act.put, List.setIfInBounds_toArray, List.set_cons_zero, List.set_cons_succ]
  first
    | (refine wpAnyH_take (i := 1) (oi := ⟨some 50, _, _, _, _, _⟩) (v := ?vs1) rfl (by kernel_rfl) (by kernel_rfl) (by kernel_rfl) (fun _ _ _ h => h) (Or.inl ⟨by rfl, ?hys1⟩) hHeld ?rrs1
       case hys1 => (intro w hSw; (try dsimp only at hSw); go_simp; try with_reducible rfl))
    | (refine wpAnyH_take (i := 1) (oi := ⟨some 50, _, _, _, _, _⟩) (v := undef) rfl (by kernel_rfl) (by kernel_rfl) (by kernel_rfl) (fun _ _ _ h => h) (Or.inr ⟨by rfl, rfl⟩) hHeld ?rrs1)
  try simp only [Act.put, List.setIfInBounds_toArray, List.set_cons_zero, List.set_cons_succ]
  refine wpAnyH_ready (rs := [2]) (by kernel_rfl) (by simp) ?_
  refine AllReadyH.cons (o := ⟨some 51, _, _, _, _, _⟩) rfl (fun K hK => ?_) AllReadyH.nil
  go_simp
  (go_at_call 22; refine (LP _).out.mono ?_; rintro e w6 ⟨rfl, hb6⟩)
  refine hK.out _ _ (keep4 hHeld hb6) (fun hHeld2 => ?_)
  clear hK K hHeld
  have hHeld := hHeld2
  clear hHeld2
  try simp only [Act.put, List.setIfInBounds_toArray, List.set_cons_zero, List.set_cons_succ]
  refine wpAnyH_ready (rs := [3]) (by kernel_rfl) (by simp) ?_
  refine AllReadyH.cons (o := ⟨some 52, _, _, _, _, _⟩) rfl (fun K hK => ?_) AllReadyH.nil
  go_simp
  (go_at_call 24; refine (X4 _).out.mono ?_; rintro e w7 ⟨rfl, hb7⟩)
  refine hK.out _ _ (keep4 hHeld hb7) (fun hHeld2 => ?_)
  clear hK K hHeld
  have hHeld := hHeld2
  clear hHeld2
  try simp only [Act.put, List.setIfInBounds_toArray, List.set_cons_zero, List.set_cons_succ]
  first
    | (refine wpAnyH_take (i := 4) (oi := ⟨some 13, _, _, _, _, _⟩) (v := ?vs4) rfl (by kernel_rfl) (by kernel_rfl) (by kernel_rfl) (fun _ _ _ h => h) (Or.inl ⟨by rfl, ?hys4⟩) hHeld ?rrs4
       case hys4 => (intro w hSw; (try dsimp only at hSw); go_simp; try with_reducible rfl))
    | (refine wpAnyH_take (i := 4) (oi := ⟨some 13, _, _, _, _, _⟩) (v := undef) rfl (by kernel_rfl) (by kernel_rfl) (by kernel_rfl) (fun _ _ _ h => h) (Or.inr ⟨by rfl, rfl⟩) hHeld ?rrs4)
  try simp only [Act.put, List.setIfInBounds_toArray, List.set_cons_zero, List.set_cons_succ]
  refine wpAnyH_done (by kernel_rfl) ?_ _
  refine NoPanic.normal ?_
  clear hb6 hb7 hT p0 p1 q0 q1
  obtain ⟨hT, p0, p1, q0, q1⟩ := hHeld
  go_wp2_with fail
  go_ret
  exact ⟨rfl, hT⟩

set_option maxRecDepth 20000 in
set_option maxHeartbeats 8000000 in
theorem nest_fc (na nb ma mb A B C D L M k C0 D0 : Int) (t1 t2 : Bool) (w : World) (E : Env w) (hBD : D < B)
    (NE : ∀ w, Hid (Calls Tryd.prog 12 #[.int .i64 na, .int .i64 nb] w fun e w' => e = .returned (.agg #[.int .i64 A, .int .i64 B]) ∧ Below w.heap.size w w'))
    (NF : ∀ w, Hid (Calls Tryd.prog 12 #[.int .i64 ma, .int .i64 mb] w fun e w' => e = .returned (.agg #[.int .i64 C, .int .i64 D]) ∧ Below w.heap.size w w'))
    (X1 : ∀ w, Hid (Calls Tryd.prog 24 #[.agg #[.int .i64 A, .int .i64 B], .int .i64 C] w fun e w' => e = .returned (.bool t1) ∧ Below w.heap.size w w'))
    (X2 : ∀ w, Hid (Calls Tryd.prog 24 #[.agg #[.int .i64 A, .int .i64 B], .int .i64 M] w fun e w' => e = .returned (.bool t2) ∧ Below w.heap.size w w'))
    (X3 : ∀ w, Hid (Calls Tryd.prog 24 #[.agg #[.int .i64 C, .int .i64 D], .int .i64 A] w fun e w' => e = .returned (.bool true) ∧ Below w.heap.size w w'))
    (X4 : ∀ w, Hid (Calls Tryd.prog 24 #[.agg #[.int .i64 C, .int .i64 D], .int .i64 L] w fun e w' => e = .returned (.bool true) ∧ Below w.heap.size w w'))
    (LQ : ∀ w, Hid (Calls Tryd.prog 22 #[.agg #[.int .i64 C, .int .i64 D]] w fun e w' => e = .returned (.int .i64 M) ∧ Below w.heap.size w w'))
    (LP : ∀ w, Hid (Calls Tryd.prog 22 #[.agg #[.int .i64 A, .int .i64 B]] w fun e w' => e = .returned (.int .i64 L) ∧ Below w.heap.size w w')) :
    Calls Tryd.prog 7 #[.agg #[.int .i64 na, .int .i64 nb], .agg #[.int .i64 ma, .int .i64 mb], .bool false] w fun e w' => e = .returned (.bool true) ∧ Below w.heap.size w w' := by
  have EX := fun w E => Lib.hid (ex_any w E)
  have HE := Lib.hid E
  clear E
  go_enter Tryd.func7, Tryd.ntmps7
  go_wp2_with fail
  have hb0 := ((Below.refl w.heap.size w).alloc (Nat.le_refl _) (.cells #[.int .i64 na, .int .i64 nb] 23)).alloc (by simp) (.cells #[.int .i64 ma, .int .i64 mb] 23)
  have n0 : ((w.alloc (.cells #[.int .i64 na, .int .i64 nb] 23)).alloc (.cells #[.int .i64 ma, .int .i64 mb] 23)).cell? ⟨w.heap.size, 0, none⟩ = some (.int .i64 na) := by simp
  have n1 : ((w.alloc (.cells #[.int .i64 na, .int .i64 nb] 23)).alloc (.cells #[.int .i64 ma, .int .i64 mb] 23)).cell? ⟨w.heap.size, 1, none⟩ = some (.int .i64 nb) := by simp
  have m0 : ((w.alloc (.cells #[.int .i64 na, .int .i64 nb] 23)).alloc (.cells #[.int .i64 ma, .int .i64 mb] 23)).cell? ⟨w.heap.size + 1, 0, none⟩ = some (.int .i64 ma) := by simp
  have m1 : ((w.alloc (.cells #[.int .i64 na, .int .i64 nb] 23)).alloc (.cells #[.int .i64 ma, .int .i64 mb] 23)).cell? ⟨w.heap.size + 1, 1, none⟩ = some (.int .i64 mb) := by simp
  refine (EX _ (HE.out.stay hb0)).out.mono ?_
  rintro e w1 ⟨rfl, hb1⟩
  replace n0 := kc hb1 n0
  replace n1 := kc hb1 n1
  replace m0 := kc hb1 m0
  replace m1 := kc hb1 m1
  have h1 := hb0.trans (hb1.mono hb0.size)
  clear hb0 hb1
  go_wp2_with fail
  refine (NE _).out.mono ?_
  rintro e w2 ⟨rfl, hb2⟩
  replace m0 := ka (.cells #[.int .i64 A, .int .i64 B] 23) (kc hb2 m0)
  replace m1 := ka (.cells #[.int .i64 A, .int .i64 B] 23) (kc hb2 m1)
  have h2 := (h1.trans (hb2.mono h1.size))
  have h2a := h2.alloc h2.size (.cells #[.int .i64 A, .int .i64 B] 23)
  have p0 : (w2.alloc (.cells #[.int .i64 A, .int .i64 B] 23)).cell? ⟨w2.heap.size, 0, none⟩ = some (.int .i64 A) := by simp
  have p1 : (w2.alloc (.cells #[.int .i64 A, .int .i64 B] 23)).cell? ⟨w2.heap.size, 1, none⟩ = some (.int .i64 B) := by simp
  clear n0 n1 h1 hb2 h2
  obtain ⟨P, hP⟩ : ∃ P, w2.heap.size = P := ⟨_, rfl⟩
  rw [hP] at p0 p1
  have HP := Lib.hid hP
  clear hP
  go_wp2_with fail
  rw [HP.out]
  refine (NF _).out.mono ?_
  rintro e w3 ⟨rfl, hb3⟩
  have m0' := m0
  have p0' := p0
  replace m0 := ka (.cells #[.int .i64 C, .int .i64 D] 23) (kc hb3 m0)
  replace m1 := ka (.cells #[.int .i64 C, .int .i64 D] 23) (kc hb3 m1)
  replace p0 := ka (.cells #[.int .i64 C, .int .i64 D] 23) (kc hb3 p0)
  replace p1 := ka (.cells #[.int .i64 C, .int .i64 D] 23) (kc hb3 p1)
  have h3 := (h2a.trans (hb3.mono h2a.size))
  have h3a := h3.alloc h3.size (.cells #[.int .i64 C, .int .i64 D] 23)
  have q0 : (w3.alloc (.cells #[.int .i64 C, .int .i64 D] 23)).cell? ⟨w3.heap.size, 0, none⟩ = some (.int .i64 C) := by simp
  have q1 : (w3.alloc (.cells #[.int .i64 C, .int .i64 D] 23)).cell? ⟨w3.heap.size, 1, none⟩ = some (.int .i64 D) := by simp
  have hT := h3a
  clear h2a hb3 h3 m0 m1 m0' p0' h3a
  go_wp2_with fail
  obtain ⟨Q, hQ⟩ : ∃ Q, w3.heap.size = Q := ⟨_, rfl⟩
  rw [hQ] at q0 q1
  rw [hQ]
  clear hQ
  obtain ⟨W3, hW3⟩ : ∃ W, w3.alloc (.cells #[.int .i64 C, .int .i64 D] 23) = W := ⟨_, rfl⟩
  rw [hW3] at p0 p1 q0 q1 hT
  rw [hW3]
  clear hW3 HE EX NE NF
  refine (X1 _).out.mono ?_
  rintro e v0 ⟨rfl, hv0⟩
  replace p0 := kc hv0 p0
  replace p1 := kc hv0 p1
  replace q0 := kc hv0 q0
  replace q1 := kc hv0 q1
  replace hT := hT.trans (hv0.mono hT.size)
  clear hv0
  go_wp2_with fail
  refine wp_region_noPanic ?_
  refine wp_region_held_drew (S := fun w' => Below w.heap.size w w' ∧ w'.cell? ⟨P, 0, none⟩ = some (.int .i64 A) ∧ w'.cell? ⟨P, 1, none⟩ = some (.int .i64 B) ∧ w'.cell? ⟨Q, 0, none⟩ = some (.int .i64 C) ∧ w'.cell? ⟨Q, 1, none⟩ = some (.int .i64 D)) (by kernel_rfl) (⟨hT.drew, p0, p1, q0, q1⟩) (fun hHeld => ?_)
  first
    | (refine wpAnyH_take (i := 0) (oi := ⟨some 41, _, _, _, _, _⟩) (v := ?vr0) rfl (by kernel_rfl) (by kernel_rfl) (by kernel_rfl) (fun _ _ _ h => h) (Or.inl ⟨by rfl, ?hyr0⟩) hHeld ?rrr0
       case hyr0 => (intro w hSw; (try dsimp only at hSw); go_simp; try with_reducible rfl))
    | (refine wpAnyH_take (i := 0) (oi := ⟨some 41, _, _, _, _, _⟩) (v := undef) rfl (by kernel_rfl) (by kernel_rfl) (by kernel_rfl) (fun _ _ _ h => h) (Or.inr ⟨by rfl, rfl⟩) hHeld ?rrr0)
  try simp only [Act.put, List.setIfInBounds_toArray, List.set_cons_zero, List.set_cons_succ]
  first
    | (refine wpAnyH_take (i := 1) (oi := ⟨some 42, _, _, _, _, _⟩) (v := ?vr1) rfl (by kernel_rfl) (by kernel_rfl) (by kernel_rfl) (fun _ _ _ h => h) (Or.inl ⟨by rfl, ?hyr1⟩) hHeld ?rrr1
       case hyr1 => (intro w hSw; (try dsimp only at hSw); go_simp; try with_reducible rfl))
    | (refine wpAnyH_take (i := 1) (oi := ⟨some 42, _, _, _, _, _⟩) (v := undef) rfl (by kernel_rfl) (by kernel_rfl) (by kernel_rfl) (fun _ _ _ h => h) (Or.inr ⟨by rfl, rfl⟩) hHeld ?rrr1)
  try simp only [Act.put, List.setIfInBounds_toArray, List.set_cons_zero, List.set_cons_succ]
  refine wpAnyH_ready (rs := [2]) (by kernel_rfl) (by simp) ?_
  refine AllReadyH.cons (o := ⟨some 43, _, _, _, _, _⟩) rfl (fun K hK => ?_) AllReadyH.nil
  go_simp
  (go_at_call 22; refine (LQ _).out.mono ?_; rintro e w6 ⟨rfl, hb6⟩)
  refine hK.out _ _ (keep4 hHeld hb6) (fun hHeld2 => ?_)
  clear hK K hHeld
  have hHeld := hHeld2
  clear hHeld2
  try simp only [Act.put, List.setIfInBounds_toArray, List.set_cons_zero, List.set_cons_succ]
  refine wpAnyH_ready (rs := [3]) (by kernel_rfl) (by simp) ?_
  refine AllReadyH.cons (o := ⟨some 44, _, _, _, _, _⟩) rfl (fun K hK => ?_) AllReadyH.nil
  go_simp
  (go_at_call 24; refine (X2 _).out.mono ?_; rintro e w7 ⟨rfl, hb7⟩)
  refine hK.out _ _ (keep4 hHeld hb7) (fun hHeld2 => ?_)
  clear hK K hHeld
  have hHeld := hHeld2
  clear hHeld2
  try simp only [Act.put, List.setIfInBounds_toArray, List.set_cons_zero, List.set_cons_succ]
  first
    | (refine wpAnyH_take (i := 4) (oi := ⟨some 11, _, _, _, _, _⟩) (v := ?vr4) rfl (by kernel_rfl) (by kernel_rfl) (by kernel_rfl) (fun _ _ _ h => h) (Or.inl ⟨by rfl, ?hyr4⟩) hHeld ?rrr4
       case hyr4 => (intro w hSw; (try dsimp only at hSw); go_simp; try with_reducible rfl))
    | (refine wpAnyH_take (i := 4) (oi := ⟨some 11, _, _, _, _, _⟩) (v := undef) rfl (by kernel_rfl) (by kernel_rfl) (by kernel_rfl) (fun _ _ _ h => h) (Or.inr ⟨by rfl, rfl⟩) hHeld ?rrr4)
  try simp only [Act.put, List.setIfInBounds_toArray, List.set_cons_zero, List.set_cons_succ]
  refine wpAnyH_done (by kernel_rfl) ?_ _
  refine NoPanic.normal ?_
  clear hb6 hb7 hT p0 p1 q0 q1
  obtain ⟨hT, p0, p1, q0, q1⟩ := hHeld
  go_wp2_with fail
  refine (X3 _).out.mono ?_
  rintro e v1 ⟨rfl, hv1⟩
  replace p0 := kc hv1 p0
  replace p1 := kc hv1 p1
  replace q0 := kc hv1 q0
  replace q1 := kc hv1 q1
  replace hT := hT.trans (hv1.mono hT.size)
  clear hv1
  go_wp2_with fail
  refine wp_region_noPanic ?_
  refine wp_region_held_drew (S := fun w' => Below w.heap.size w w' ∧ w'.cell? ⟨P, 0, none⟩ = some (.int .i64 A) ∧ w'.cell? ⟨P, 1, none⟩ = some (.int .i64 B) ∧ w'.cell? ⟨Q, 0, none⟩ = some (.int .i64 C) ∧ w'.cell? ⟨Q, 1, none⟩ = some (.int .i64 D)) (by kernel_rfl) (⟨hT.drew, p0, p1, q0, q1⟩) (fun hHeld => ?_)
  first
    | (refine wpAnyH_take (i := 0) (oi := ⟨some 49, _, _, _, _, _⟩) (v := ?vs0) rfl (by kernel_rfl) (by kernel_rfl) (by kernel_rfl) (fun _ _ _ h => h) (Or.inl ⟨by rfl, ?hys0⟩) hHeld ?rrs0
       case hys0 => (intro w hSw; (try dsimp only at hSw); go_simp; try with_reducible rfl))
    | (refine wpAnyH_take (i := 0) (oi := ⟨some 49, _, _, _, _, _⟩) (v := undef) rfl (by kernel_rfl) (by kernel_rfl) (by kernel_rfl) (fun _ _ _ h => h) (Or.inr ⟨by rfl, rfl⟩) hHeld ?rrs0)
  try simp only [Act.put, List.setIfInBounds_toArray, List.set_cons_zero, List.set_cons_succ]
  first
    | (refine wpAnyH_take (i := 1) (oi := ⟨some 50, _, _, _, _, _⟩) (v := ?vs1) rfl (by kernel_rfl) (by kernel_rfl) (by kernel_rfl) (fun _ _ _ h => h) (Or.inl ⟨by rfl, ?hys1⟩) hHeld ?rrs1
       case hys1 => (intro w hSw; (try dsimp only at hSw); go_simp; try with_reducible rfl))
    | (refine wpAnyH_take (i := 1) (oi := ⟨some 50, _, _, _, _, _⟩) (v := undef) rfl (by kernel_rfl) (by kernel_rfl) (by kernel_rfl) (fun _ _ _ h => h) (Or.inr ⟨by rfl, rfl⟩) hHeld ?rrs1)
  try simp only [Act.put, List.setIfInBounds_toArray, List.set_cons_zero, List.set_cons_succ]
  refine wpAnyH_ready (rs := [2]) (by kernel_rfl) (by simp) ?_
  refine AllReadyH.cons (o := ⟨some 51, _, _, _, _, _⟩) rfl (fun K hK => ?_) AllReadyH.nil
  go_simp
  (go_at_call 22; refine (LP _).out.mono ?_; rintro e w6 ⟨rfl, hb6⟩)
  refine hK.out _ _ (keep4 hHeld hb6) (fun hHeld2 => ?_)
  clear hK K hHeld
  have hHeld := hHeld2
  clear hHeld2
  try simp only [Act.put, List.setIfInBounds_toArray, List.set_cons_zero, List.set_cons_succ]
  refine wpAnyH_ready (rs := [3]) (by kernel_rfl) (by simp) ?_
  refine AllReadyH.cons (o := ⟨some 52, _, _, _, _, _⟩) rfl (fun K hK => ?_) AllReadyH.nil
  go_simp
  (go_at_call 24; refine (X4 _).out.mono ?_; rintro e w7 ⟨rfl, hb7⟩)
  refine hK.out _ _ (keep4 hHeld hb7) (fun hHeld2 => ?_)
  clear hK K hHeld
  have hHeld := hHeld2
  clear hHeld2
  try simp only [Act.put, List.setIfInBounds_toArray, List.set_cons_zero, List.set_cons_succ]
  first
    | (refine wpAnyH_take (i := 4) (oi := ⟨some 13, _, _, _, _, _⟩) (v := ?vs4) rfl (by kernel_rfl) (by kernel_rfl) (by kernel_rfl) (fun _ _ _ h => h) (Or.inl ⟨by rfl, ?hys4⟩) hHeld ?rrs4
       case hys4 => (intro w hSw; (try dsimp only at hSw); go_simp; try with_reducible rfl))
    | (refine wpAnyH_take (i := 4) (oi := ⟨some 13, _, _, _, _, _⟩) (v := undef) rfl (by kernel_rfl) (by kernel_rfl) (by kernel_rfl) (fun _ _ _ h => h) (Or.inr ⟨by rfl, rfl⟩) hHeld ?rrs4)
  try simp only [Act.put, List.setIfInBounds_toArray, List.set_cons_zero, List.set_cons_succ]
  refine wpAnyH_done (by kernel_rfl) ?_ _
  refine NoPanic.normal ?_
  clear hb6 hb7 hT p0 p1 q0 q1
  obtain ⟨hT, p0, p1, q0, q1⟩ := hHeld
  go_wp2_with fail
  go_ret
  exact ⟨rfl, hT⟩

set_option maxRecDepth 20000 in
set_option maxHeartbeats 8000000 in
theorem nest_fd (na nb ma mb A B C D L M k C0 D0 : Int) (w : World) (E : Env w) (hBD : D < B)
    (NE : ∀ w, Hid (Calls Tryd.prog 12 #[.int .i64 na, .int .i64 nb] w fun e w' => e = .returned (.agg #[.int .i64 A, .int .i64 B]) ∧ Below w.heap.size w w'))
    (NF : ∀ w, Hid (Calls Tryd.prog 12 #[.int .i64 ma, .int .i64 mb] w fun e w' => e = .returned (.agg #[.int .i64 C, .int .i64 D]) ∧ Below w.heap.size w w'))
    (X1 : ∀ w, Hid (Calls Tryd.prog 24 #[.agg #[.int .i64 A, .int .i64 B], .int .i64 C] w fun e w' => e = .returned (.bool false) ∧ Below w.heap.size w w'))
    (X2 : ∀ w, Hid (Calls Tryd.prog 24 #[.agg #[.int .i64 A, .int .i64 B], .int .i64 M] w fun e w' => e = .returned (.bool false) ∧ Below w.heap.size w w'))
    (X3 : ∀ w, Hid (Calls Tryd.prog 24 #[.agg #[.int .i64 C, .int .i64 D], .int .i64 A] w fun e w' => e = .returned (.bool false) ∧ Below w.heap.size w w'))
    (X4 : ∀ w, Hid (Calls Tryd.prog 24 #[.agg #[.int .i64 C, .int .i64 D], .int .i64 L] w fun e w' => e = .returned (.bool false) ∧ Below w.heap.size w w'))
    (LQ : ∀ w, Hid (Calls Tryd.prog 22 #[.agg #[.int .i64 C, .int .i64 D]] w fun e w' => e = .returned (.int .i64 M) ∧ Below w.heap.size w w'))
    (LP : ∀ w, Hid (Calls Tryd.prog 22 #[.agg #[.int .i64 A, .int .i64 B]] w fun e w' => e = .returned (.int .i64 L) ∧ Below w.heap.size w w')) :
    Calls Tryd.prog 7 #[.agg #[.int .i64 na, .int .i64 nb], .agg #[.int .i64 ma, .int .i64 mb], .bool false] w fun e w' => e = .returned (.bool true) ∧ Below w.heap.size w w' := by
  have EX := fun w E => Lib.hid (ex_any w E)
  have HE := Lib.hid E
  clear E
  go_enter Tryd.func7, Tryd.ntmps7
  go_wp2_with fail
  have hb0 := ((Below.refl w.heap.size w).alloc (Nat.le_refl _) (.cells #[.int .i64 na, .int .i64 nb] 23)).alloc (by simp) (.cells #[.int .i64 ma, .int .i64 mb] 23)
  have n0 : ((w.alloc (.cells #[.int .i64 na, .int .i64 nb] 23)).alloc (.cells #[.int .i64 ma, .int .i64 mb] 23)).cell? ⟨w.heap.size, 0, none⟩ = some (.int .i64 na) := by simp
  have n1 : ((w.alloc (.cells #[.int .i64 na, .int .i64 nb] 23)).alloc (.cells #[.int .i64 ma, .int .i64 mb] 23)).cell? ⟨w.heap.size, 1, none⟩ = some (.int .i64 nb) := by simp
  have m0 : ((w.alloc (.cells #[.int .i64 na, .int .i64 nb] 23)).alloc (.cells #[.int .i64 ma, .int .i64 mb] 23)).cell? ⟨w.heap.size + 1, 0, none⟩ = some (.int .i64 ma) := by simp
  have m1 : ((w.alloc (.cells #[.int .i64 na, .int .i64 nb] 23)).alloc (.cells #[.int .i64 ma, .int .i64 mb] 23)).cell? ⟨w.heap.size + 1, 1, none⟩ = some (.int .i64 mb) := by simp
  refine (EX _ (HE.out.stay hb0)).out.mono ?_
  rintro e w1 ⟨rfl, hb1⟩
  replace n0 := kc hb1 n0
  replace n1 := kc hb1 n1
  replace m0 := kc hb1 m0
  replace m1 := kc hb1 m1
  have h1 := hb0.trans (hb1.mono hb0.size)
  clear hb0 hb1
  go_wp2_with fail
  refine (NE _).out.mono ?_
  rintro e w2 ⟨rfl, hb2⟩
  replace m0 := ka (.cells #[.int .i64 A, .int .i64 B] 23) (kc hb2 m0)
  replace m1 := ka (.cells #[.int .i64 A, .int .i64 B] 23) (kc hb2 m1)
  have h2 := (h1.trans (hb2.mono h1.size))
  have h2a := h2.alloc h2.size (.cells #[.int .i64 A, .int .i64 B] 23)
  have p0 : (w2.alloc (.cells #[.int .i64 A, .int .i64 B] 23)).cell? ⟨w2.heap.size, 0, none⟩ = some (.int .i64 A) := by simp
  have p1 : (w2.alloc (.cells #[.int .i64 A, .int .i64 B] 23)).cell? ⟨w2.heap.size, 1, none⟩ = some (.int .i64 B) := by simp
  clear n0 n1 h1 hb2 h2
  obtain ⟨P, hP⟩ : ∃ P, w2.heap.size = P := ⟨_, rfl⟩
  rw [hP] at p0 p1
  have HP := Lib.hid hP
  clear hP
  go_wp2_with fail
  rw [HP.out]
  refine (NF _).out.mono ?_
  rintro e w3 ⟨rfl, hb3⟩
  have m0' := m0
  have p0' := p0
  replace m0 := ka (.cells #[.int .i64 C, .int .i64 D] 23) (kc hb3 m0)
  replace m1 := ka (.cells #[.int .i64 C, .int .i64 D] 23) (kc hb3 m1)
  replace p0 := ka (.cells #[.int .i64 C, .int .i64 D] 23) (kc hb3 p0)
  replace p1 := ka (.cells #[.int .i64 C, .int .i64 D] 23) (kc hb3 p1)
  have h3 := (h2a.trans (hb3.mono h2a.size))
  have h3a := h3.alloc h3.size (.cells #[.int .i64 C, .int .i64 D] 23)
  have q0 : (w3.alloc (.cells #[.int .i64 C, .int .i64 D] 23)).cell? ⟨w3.heap.size, 0, none⟩ = some (.int .i64 C) := by simp
  have q1 : (w3.alloc (.cells #[.int .i64 C, .int .i64 D] 23)).cell? ⟨w3.heap.size, 1, none⟩ = some (.int .i64 D) := by simp
  have hT := h3a
  clear h2a hb3 h3 m0 m1 m0' p0' h3a
  go_wp2_with fail
  obtain ⟨Q, hQ⟩ : ∃ Q, w3.heap.size = Q := ⟨_, rfl⟩
  rw [hQ] at q0 q1
  rw [hQ]
  clear hQ
  obtain ⟨W3, hW3⟩ : ∃ W, w3.alloc (.cells #[.int .i64 C, .int .i64 D] 23) = W := ⟨_, rfl⟩
  rw [hW3] at p0 p1 q0 q1 hT
  rw [hW3]
  clear hW3 HE EX NE NF
  refine (X1 _).out.mono ?_
  rintro e v0 ⟨rfl, hv0⟩
  replace p0 := kc hv0 p0
  replace p1 := kc hv0 p1
  replace q0 := kc hv0 q0
  replace q1 := kc hv0 q1
  replace hT := hT.trans (hv0.mono hT.size)
  clear hv0
  go_wp2_with fail
  refine wp_region_noPanic ?_
  refine wp_region_held_drew (S := fun w' => Below w.heap.size w w' ∧ w'.cell? ⟨P, 0, none⟩ = some (.int .i64 A) ∧ w'.cell? ⟨P, 1, none⟩ = some (.int .i64 B) ∧ w'.cell? ⟨Q, 0, none⟩ = some (.int .i64 C) ∧ w'.cell? ⟨Q, 1, none⟩ = some (.int .i64 D)) (by kernel_rfl) (⟨hT.drew, p0, p1, q0, q1⟩) (fun hHeld => ?_)
  first
    | (refine wpAnyH_take (i := 0) (oi := ⟨some 41, _, _, _, _, _⟩) (v := ?vr0) rfl (by kernel_rfl) (by kernel_rfl) (by kernel_rfl) (fun _ _ _ h => h) (Or.inl ⟨by rfl, ?hyr0⟩) hHeld ?rrr0
       case hyr0 => (intro w hSw; (try dsimp only at hSw); go_simp; try with_reducible rfl))
    | (refine wpAnyH_take (i := 0) (oi := ⟨some 41, _, _, _, _, _⟩) (v := undef) rfl (by kernel_rfl) (by kernel_rfl) (by kernel_rfl) (fun _ _ _ h => h) (Or.inr ⟨by rfl, rfl⟩) hHeld ?rrr0)
  try simp only [Act.put, List.setIfInBounds_toArray, List.set_cons_zero, List.set_cons_succ]
  first
    | (refine wpAnyH_take (i := 1) (oi := ⟨some 42, _, _, _, _, _⟩) (v := ?vr1) rfl (by kernel_rfl) (by kernel_rfl) (by kernel_rfl) (fun _ _ _ h => h) (Or.inl ⟨by rfl, ?hyr1⟩) hHeld ?rrr1
       case hyr1 => (intro w hSw; (try dsimp only at hSw); go_simp; try with_reducible rfl))
    | (refine wpAnyH_take (i := 1) (oi := ⟨some 42, _, _, _, _, _⟩) (v := undef) rfl (by kernel_rfl) (by kernel_rfl) (by kernel_rfl) (fun _ _ _ h => h) (Or.inr ⟨by rfl, rfl⟩) hHeld ?rrr1)
  try simp only [Act.put, List.setIfInBounds_toArray, List.set_cons_zero, List.set_cons_succ]
  refine wpAnyH_ready (rs := [2]) (by kernel_rfl) (by simp) ?_
  refine AllReadyH.cons (o := ⟨some 43, _, _, _, _, _⟩) rfl (fun K hK => ?_) AllReadyH.nil
  go_simp
  (go_at_call 22; refine (LQ _).out.mono ?_; rintro e w6 ⟨rfl, hb6⟩)
  refine hK.out _ _ (keep4 hHeld hb6) (fun hHeld2 => ?_)
  clear hK K hHeld
  have hHeld := hHeld2
  clear hHeld2
  try simp only [Act.put, List.setIfInBounds_toArray, List.set_cons_zero, List.set_cons_succ]
  refine wpAnyH_ready (rs := [3]) (by kernel_rfl) (by simp) ?_
  refine AllReadyH.cons (o := ⟨some 44, _, _, _, _, _⟩) rfl (fun K hK => ?_) AllReadyH.nil
  go_simp
  (go_at_call 24; refine (X2 _).out.mono ?_; rintro e w7 ⟨rfl, hb7⟩)
  refine hK.out _ _ (keep4 hHeld hb7) (fun hHeld2 => ?_)
  clear hK K hHeld
  have hHeld := hHeld2
  clear hHeld2
  try simp only [Act.put, List.setIfInBounds_toArray, List.set_cons_zero, List.set_cons_succ]
  first
    | (refine wpAnyH_take (i := 4) (oi := ⟨some 11, _, _, _, _, _⟩) (v := ?vr4) rfl (by kernel_rfl) (by kernel_rfl) (by kernel_rfl) (fun _ _ _ h => h) (Or.inl ⟨by rfl, ?hyr4⟩) hHeld ?rrr4
       case hyr4 => (intro w hSw; (try dsimp only at hSw); go_simp; try with_reducible rfl))
    | (refine wpAnyH_take (i := 4) (oi := ⟨some 11, _, _, _, _, _⟩) (v := undef) rfl (by kernel_rfl) (by kernel_rfl) (by kernel_rfl) (fun _ _ _ h => h) (Or.inr ⟨by rfl, rfl⟩) hHeld ?rrr4)
  try simp only [Act.put, List.setIfInBounds_toArray, List.set_cons_zero, List.set_cons_succ]
  refine wpAnyH_done (by kernel_rfl) ?_ _
  refine NoPanic.normal ?_
  clear hb6 hb7 hT p0 p1 q0 q1
  obtain ⟨hT, p0, p1, q0, q1⟩ := hHeld
  go_wp2_with fail
  refine (X3 _).out.mono ?_
  rintro e v1 ⟨rfl, hv1⟩
  replace p0 := kc hv1 p0
  replace p1 := kc hv1 p1
  replace q0 := kc hv1 q0
  replace q1 := kc hv1 q1
  replace hT := hT.trans (hv1.mono hT.size)
  clear hv1
  go_wp2_with fail
  refine wp_region_noPanic ?_
  refine wp_region_held_drew (S := fun w' => Below w.heap.size w w' ∧ w'.cell? ⟨P, 0, none⟩ = some (.int .i64 A) ∧ w'.cell? ⟨P, 1, none⟩ = some (.int .i64 B) ∧ w'.cell? ⟨Q, 0, none⟩ = some (.int .i64 C) ∧ w'.cell? ⟨Q, 1, none⟩ = some (.int .i64 D)) (by kernel_rfl) (⟨hT.drew, p0, p1, q0, q1⟩) (fun hHeld => ?_)
  first
    | (refine wpAnyH_take (i := 0) (oi := ⟨some 49, _, _, _, _, _⟩) (v := ?vs0) rfl (by kernel_rfl) (by kernel_rfl) (by kernel_rfl) (fun _ _ _ h => h) (Or.inl ⟨by rfl, ?hys0⟩) hHeld ?rrs0
       case hys0 => (intro w hSw; (try dsimp only at hSw); go_simp; try with_reducible rfl))
    | (refine wpAnyH_take (i := 0) (oi := ⟨some 49, _, _, _, _, _⟩) (v := undef) rfl (by kernel_rfl) (by kernel_rfl) (by kernel_rfl) (fun _ _ _ h => h) (Or.inr ⟨by rfl, rfl⟩) hHeld ?rrs0)
  try simp only [Act.put, List.setIfInBounds_toArray, List.set_cons_zero, List.set_cons_succ]
  first
    | (refine wpAnyH_take (i := 1) (oi := ⟨some 50, _, _, _, _, _⟩) (v := ?vs1) rfl (by kernel_rfl) (by kernel_rfl) (by kernel_rfl) (fun _ _ _ h => h) (Or.inl ⟨by rfl, ?hys1⟩) hHeld ?rrs1
       case hys1 => (intro w hSw; (try dsimp only at hSw); go_simp; try with_reducible rfl))
    | (refine wpAnyH_take (i := 1) (oi := ⟨some 50, _, _, _, _, _⟩) (v := undef) rfl (by kernel_rfl) (by kernel_rfl) (by kernel_rfl) (fun _ _ _ h => h) (Or.inr ⟨by rfl, rfl⟩) hHeld ?rrs1)
  try simp only [Act.put, List.setIfInBounds_toArray, List.set_cons_zero, List.set_cons_succ]
  refine wpAnyH_ready (rs := [2]) (by kernel_rfl) (by simp) ?_
  refine AllReadyH.cons (o := ⟨some 51, _, _, _, _, _⟩) rfl (fun K hK => ?_) AllReadyH.nil
  go_simp
  (go_at_call 22; refine (LP _).out.mono ?_; rintro e w6 ⟨rfl, hb6⟩)
  refine hK.out _ _ (keep4 hHeld hb6) (fun hHeld2 => ?_)
  clear hK K hHeld
  have hHeld := hHeld2
  clear hHeld2
  try simp only [Act.put, List.setIfInBounds_toArray, List.set_cons_zero, List.set_cons_succ]
  refine wpAnyH_ready (rs := [3]) (by kernel_rfl) (by simp) ?_
  refine AllReadyH.cons (o := ⟨some 52, _, _, _, _, _⟩) rfl (fun K hK => ?_) AllReadyH.nil
  go_simp
  (go_at_call 24; refine (X4 _).out.mono ?_; rintro e w7 ⟨rfl, hb7⟩)
  refine hK.out _ _ (keep4 hHeld hb7) (fun hHeld2 => ?_)
  clear hK K hHeld
  have hHeld := hHeld2
  clear hHeld2
  try simp only [Act.put, List.setIfInBounds_toArray, List.set_cons_zero, List.set_cons_succ]
  first
    | (refine wpAnyH_take (i := 4) (oi := ⟨some 13, _, _, _, _, _⟩) (v := ?vs4) rfl (by kernel_rfl) (by kernel_rfl) (by kernel_rfl) (fun _ _ _ h => h) (Or.inl ⟨by rfl, ?hys4⟩) hHeld ?rrs4
       case hys4 => (intro w hSw; (try dsimp only at hSw); go_simp; try with_reducible rfl))
    | (refine wpAnyH_take (i := 4) (oi := ⟨some 13, _, _, _, _, _⟩) (v := undef) rfl (by kernel_rfl) (by kernel_rfl) (by kernel_rfl) (fun _ _ _ h => h) (Or.inr ⟨by rfl, rfl⟩) hHeld ?rrs4)
  try simp only [Act.put, List.setIfInBounds_toArray, List.set_cons_zero, List.set_cons_succ]
  refine wpAnyH_done (by kernel_rfl) ?_ _
  refine NoPanic.normal ?_
  clear hb6 hb7 hT p0 p1 q0 q1
  obtain ⟨hT, p0, p1, q0, q1⟩ := hHeld
  go_wp2_with fail
  go_ret
  exact ⟨rfl, hT⟩

end Go.Proofs.YtobcecnmeepjpaaDoor

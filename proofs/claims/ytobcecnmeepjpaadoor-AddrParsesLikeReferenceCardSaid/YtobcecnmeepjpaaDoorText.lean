/- The contracts of the four functions on texts, in one form each. -/
import Derived.Test.YtobcecnmeepjpaaDoorPfx
namespace Go.Proofs.YtobcecnmeepjpaaDoor
open Go.RowKit
set_option linter.unusedVariables false

theorem ppL_none_a {s : ByteArray} (h : parseL (cutA s) = none) : ppL s = none := by unfold ppL; rw [h]
theorem ppL_none_b {s : ByteArray} {v : Int} (h : parseL (cutA s) = some v) (h2 : numZ (cutB s).data.toList 32 = none) : ppL s = none := by unfold ppL; rw [h, h2]
theorem ppL_both {s : ByteArray} {v n : Int} (h : parseL (cutA s) = some v) (h2 : numZ (cutB s).data.toList 32 = some n) : ppL s = if vpZ v n then some (v, n) else none := by unfold ppL; rw [h, h2]

/-- what ParsePrefix returns -/
def ppA (s : ByteArray) : Int := ((ppL s).getD (0, 0)).1
def ppB (s : ByteArray) : Int := ((ppL s).getD (0, 0)).2
def ppE (s : ByteArray) : Int := if (ppL s).isSome then 0 else 30

set_option maxRecDepth 20000 in
set_option maxHeartbeats 2000000 in
theorem pp_d (s : ByteArray) (w : World) (hs : s.size ≤ 4294967280) (E : Env w) (nv v : Int) (V : Hid (∀ w, Calls Tryd.prog 23 #[.agg #[.int .i64 v, .int .i64 nv]] w fun e w' => e = .returned (.bool false) ∧ Below w.heap.size w w'))
    (P : ∀ w, Env w → Hid (Calls Tryd.prog 16 #[.string (cutA s)] w fun e w' => e = .returned (.tuple #[.int .i64 v, .int .i64 0]) ∧ Below w.heap.size w w'))
    (N : ∀ w, Env w → Hid (Calls Tryd.prog 37 #[.string (cutB s), .int .i64 32] w fun e w' => e = .returned (.tuple #[.int .i64 nv, .bool true]) ∧ Below w.heap.size w w')) :
    Calls Tryd.prog 18 #[.string s] w fun e w' => e = .returned (.tuple #[.agg #[.int .i64 0, .int .i64 0], .int .i64 30]) ∧ Below w.heap.size w w' := by
  have hb0 := (Below.refl w.heap.size w).alloc (Nat.le_refl _) (.cells #[.int .i64 0, .int .i64 0] 23)
  have C := Lib.hid (cut_any s _ hs (E.stay hb0))
  obtain ⟨x, hx⟩ : ∃ x, cutA s = x := ⟨_, rfl⟩
  obtain ⟨y, hy⟩ : ∃ y, cutB s = y := ⟨_, rfl⟩
  rw [hx] at P
  rw [hy] at N
  rw [hx, hy] at C
  have HE := Lib.hid E
  clear hx hy E hs
  go_enter Tryd.func18, Tryd.ntmps18
  go_wp2_with fail
  refine C.out.mono ?_
  rintro e w' ⟨b0, rfl, k, rfl⟩
  have hb1 := below_drewN (k := k) hb0
  go_wp2_with fail
  refine (P _ (HE.out.stay hb1)).out.mono ?_
  rintro e w2 ⟨rfl, hb2⟩
  have c0 : ((w.alloc (.cells #[.int .i64 0, .int .i64 0] 23)).drewN k).cell? ⟨w.heap.size, 0, none⟩ = some (.int .i64 0) := by simp
  have c1 : ((w.alloc (.cells #[.int .i64 0, .int .i64 0] 23)).drewN k).cell? ⟨w.heap.size, 1, none⟩ = some (.int .i64 0) := by simp
  have z0 : ((w.alloc (.cells #[.int .i64 0, .int .i64 0] 23)).drewN k).frozen? ⟨w.heap.size, 0, none⟩ = false := by simp
  have z1 : ((w.alloc (.cells #[.int .i64 0, .int .i64 0] 23)).drewN k).frozen? ⟨w.heap.size, 1, none⟩ = false := by simp
  have hl0 := World.block_lt_of_cell? _ _ c0
  obtain ⟨hj1, hj2, hj3⟩ := keep2 ⟨hb1, c0, c1⟩ hb2
  have hfz := (hb2.frozen (p := ⟨w.heap.size, 0, none⟩) hl0).trans z0
  have hfz1 := (hb2.frozen (p := ⟨w.heap.size, 1, none⟩) hl0).trans z1
  go_wp2_with fail
  refine (N _ (HE.out.stay hj1)).out.mono ?_
  rintro e w3 ⟨rfl, hb3⟩
  obtain ⟨hi1, hi2, hi3⟩ := keep2 ⟨hj1, hj2, hj3⟩ hb3
  have hlt := World.block_lt_of_cell? _ _ hj2
  have hfy := (hb3.frozen (p := ⟨w.heap.size, 0, none⟩) hlt).trans hfz
  have hfy1 := (hb3.frozen (p := ⟨w.heap.size, 1, none⟩) hlt).trans hfz1
  have hlt3 := World.block_lt_of_cell? _ _ hi2
  clear hj2 hj3 hfz hfz1 c0 c1 z0 z1 hl0 hb0 hb1 hb2 hb3 hj1 P N C HE hlt
  go_wp2_with fail
  refine (V.out _).mono ?_
  rintro e w4 ⟨rfl, hb4⟩
  have e0 : (w3.alloc (.cells #[.int .i64 v, .int .i64 nv] 23)).cell? ⟨w3.heap.size, 0, none⟩ = some (.int .i64 v) := by simp
  have e1 : (w3.alloc (.cells #[.int .i64 v, .int .i64 nv] 23)).cell? ⟨w3.heap.size, 1, none⟩ = some (.int .i64 nv) := by simp
  have hsz : (w3.alloc (.cells #[.int .i64 v, .int .i64 nv] 23)).heap.size = w3.heap.size + 1 := by simp
  have k0 := (hb4.cell (World.block_lt_of_cell? _ _ e0)).trans e0
  have k1 := (hb4.cell (World.block_lt_of_cell? _ _ e1)).trans e1
  have a0 := (World.cell?_alloc_some w3 ⟨w.heap.size, 0, none⟩ (.cells #[.int .i64 v, .int .i64 nv] 23) (by rw [hi2]; rfl)).trans hi2
  have a1 := (World.cell?_alloc_some w3 ⟨w.heap.size, 1, none⟩ (.cells #[.int .i64 v, .int .i64 nv] 23) (by rw [hi3]; rfl)).trans hi3
  have f0 := (World.frozen?_alloc_old (w := w3) (a := ⟨w.heap.size, 0, none⟩) (o := .cells #[.int .i64 v, .int .i64 nv] 23) (by simp; omega)).trans hfy
  have f1 := (World.frozen?_alloc_old (w := w3) (a := ⟨w.heap.size, 1, none⟩) (o := .cells #[.int .i64 v, .int .i64 nv] 23) (by simp; omega)).trans hfy1
  have m0 := (hb4.cell (p := ⟨w.heap.size, 0, none⟩) (by rw [hsz]; simp; omega)).trans a0
  have m1 := (hb4.cell (p := ⟨w.heap.size, 1, none⟩) (by rw [hsz]; simp; omega)).trans a1
  have n0 := (hb4.frozen (p := ⟨w.heap.size, 0, none⟩) (by rw [hsz]; simp; omega)).trans f0
  have n1 := (hb4.frozen (p := ⟨w.heap.size, 1, none⟩) (by rw [hsz]; simp; omega)).trans f1
  have hB4 : Below w.heap.size w w4 := (hi1.alloc (by omega) (.cells #[.int .i64 v, .int .i64 nv] 23)).trans (hb4.mono (by rw [hsz]; omega))
  have g0 := set_same m0 (.int .i64 0)
  have g1 := (two_sets m0 m1 (.int .i64 0) (.int .i64 0)).2
  clear e0 e1 a0 a1 f0 f1 hsz hb4 hi1 hi2 hi3 hfy hfy1
  go_wp2_with fail
  try simp only [Exit.inBlock, Exit.then]
  refine bodyPost_ret (by simp [results, Tryd.results18, go_sem, g0, g1]; try rfl) rfl ?_
  exact ⟨rfl, (hB4.setCell (Nat.le_refl _) _).setCell (Nat.le_refl _) _⟩

theorem pp_any (s : ByteArray) (w : World) (hs : s.size ≤ 4294967280) (E : Env w) :
    Calls Tryd.prog 18 #[.string s] w fun e w' => e = .returned (.tuple #[.agg #[.int .i64 (ppA s), .int .i64 (ppB s)], .int .i64 (ppE s)]) ∧ Below w.heap.size w w' := by
  have hc := cut_le s
  unfold ppA ppB ppE
  cases hp : parseL (cutA s) with
  | none =>
    rw [ppL_none_a hp]
    exact pp_a s w hs E _ _ (fun w E => Lib.hid (parse_none w (by omega) E hp)) (fun w E => Lib.hid (num_any (cutB s) 32 w (by omega) E (by decide) (by decide)))
  | some v =>
    have hv := parseL_bd hp
    cases hn : numZ (cutB s).data.toList 32 with
    | none =>
      rw [ppL_none_b hp hn]
      exact pp_b s w hs E _ _ (fun w E => Lib.hid (parse_some w (by omega) E hp)) (fun w E => Lib.hid (num_none w (by omega) (by decide) (by decide) E hn))
    | some n =>
      have hb := numZ_bd hn
      rw [ppL_both hp hn]
      have V := fun w => vprefix_any v n w (by omega) (by omega) (by omega) (by omega)
      cases hz : vpZ v n with
      | true =>
        rw [hz] at V
        exact pp_c s w hs E _ _ (Lib.hid V) (fun w E => Lib.hid (parse_some w (by omega) E hp)) (fun w E => Lib.hid (num_some w (by omega) (by decide) (by decide) E hn))
      | false =>
        rw [hz] at V
        exact pp_d s w hs E _ _ (Lib.hid V) (fun w E => Lib.hid (parse_some w (by omega) E hp)) (fun w E => Lib.hid (num_some w (by omega) (by decide) (by decide) E hn))

/-- what Format and FormatPrefix return -/
def fS (a : Int) : ByteArray := if validZ a then ⟨(fmtL a).toArray⟩ else ⟨#[]⟩
def fE (a : Int) : Int := if validZ a then 0 else 30
def fpS (a b : Int) : ByteArray := if vpZ a b then ⟨(fmtPL a b).toArray⟩ else ⟨#[]⟩
def fpE (a b : Int) : Int := if vpZ a b then 0 else 30
theorem format_any (a : Int) (w : World) (la : -9223372036854775808 ≤ a) (ua : a ≤ 9223372036854775807) (E : Env w) :
    Calls Tryd.prog 20 #[.int .i64 a] w fun e w' => e = .returned (.tuple #[.string (fS a), .int .i64 (fE a)]) ∧ Below w.heap.size w w' := by
  unfold fS fE
  cases h : validZ a with
  | true => exact fmt_any a w (validZ_bd h).1 (validZ_bd h).2 E
  | false => exact fmt_no a w la ua h
theorem fpre_any (a b : Int) (w : World) (la : -9223372036854775808 ≤ a) (ua : a ≤ 9223372036854775807) (lb : -9223372036854775808 ≤ b) (ub : b ≤ 9223372036854775807) (E : Env w) :
    Calls Tryd.prog 21 #[.agg #[.int .i64 a, .int .i64 b]] w fun e w' => e = .returned (.tuple #[.string (fpS a b), .int .i64 (fpE a b)]) ∧ Below w.heap.size w w' := by
  unfold fpS fpE
  cases h : vpZ a b with
  | true => exact fp_in a b w la ua lb ub h E
  | false => exact fp_no a b w la ua lb ub h
end Go.Proofs.YtobcecnmeepjpaaDoor

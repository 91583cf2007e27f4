/- Contract of the statements' Message. -/
import Derived.Test.YtpkfjlbjahghgaaAeVal
import Derived.Test.YtpkfjlbjahghgaaArMem
import Derived.Deep.RegionHeld3
import Derived.BigRegion
import Derived.IntWalk
import Derived.Lib.Hide
namespace Go.Proofs.Ytpkfjlbjahghgaa
open Go.RowKit
set_option linter.unusedVariables false
attribute [local go_sem] Oper.semAt_some

theorem tdivB (z k : Int) (h1 : -9223372036854775808 ≤ z) (h2 : z ≤ 9223372036854775807) (hk : 1 ≤ k) : -9223372036854775808 ≤ z.tdiv k ∧ z.tdiv k ≤ 9223372036854775807 := by
  by_cases h : 0 ≤ z
  · rw [Int.tdiv_eq_ediv_of_nonneg h]
    have a1 := Int.ediv_nonneg h (by omega : 0 ≤ k)
    have a2 : z / k ≤ z := Int.ediv_le_self _ h
    omega
  · have e : z.tdiv k = -((-z).tdiv k) := by rw [Int.neg_tdiv]; omega
    rw [e, Int.tdiv_eq_ediv_of_nonneg (by omega)]
    have a1 := Int.ediv_nonneg (by omega : 0 ≤ -z) (by omega : 0 ≤ k)
    have a2 : -z / k ≤ -z := Int.ediv_le_self _ (by omega)
    omega
/-- a call's fields -/
structure Cl where
  k : Int
  a : Int
  m : Int
  t : Int
  o : Int
  s : ByteArray
  ti : Int
  x1 : Int
  x2 : Int
  x3 : Int
  x4 : Int
  x5 : Int
def b64 (z : Int) : Prop := -9223372036854775808 ≤ z ∧ z ≤ 9223372036854775807
structure Cl.ok (c : Cl) : Prop where
  k : 0 ≤ c.k ∧ c.k ≤ 255
  a : b64 c.a
  m : b64 c.m
  t : b64 c.t
  o : b64 c.o
  s : c.s.size ≤ maxLen
  ti : b64 c.ti
  x1 : b64 c.x1
  x2 : b64 c.x2
  x3 : b64 c.x3
  x4 : b64 c.x4
  x5 : b64 c.x5
abbrev clv (c : Cl) : Value := .agg #[.int .u8 c.k, .int .i64 c.a, .int .i64 c.m, .int .i64 c.t, .int .i64 c.o, .string c.s, .int .i64 c.ti, .int .i64 c.x1, .int .i64 c.x2, .int .i64 c.x3, .int .i64 c.x4, .int .i64 c.x5]
abbrev clo (c : Cl) : Obj := .cells #[.int .u8 c.k, .int .i64 c.a, .int .i64 c.m, .int .i64 c.t, .int .i64 c.o, .string c.s, .int .i64 c.ti, .int .i64 c.x1, .int .i64 c.x2, .int .i64 c.x3, .int .i64 c.x4, .int .i64 c.x5] 25

def msgT (c : Cl) : Int := if pickZ c.t 4 = 0 then 10 + pickZ (c.t.tdiv 4) 24 else 10
def msgN (c : Cl) : Int := if 1 + pickZ c.o 2 = 2 then 1 + pickZ c.t 9 else 0
abbrev msgV (c : Cl) : Value := av (1 + pickZ c.o 2) (10 + pickZ c.a 24) (1 + pickZ c.m 9) (msgT c) (msgN c)
theorem msg_ok (c : Cl) : okA (1 + pickZ c.o 2) (10 + pickZ c.a 24) (1 + pickZ c.m 9) (msgT c) (msgN c) := by
  have h1 := pickZ_bd c.o 2 (by decide)
  have h2 := pickZ_bd c.a 24 (by decide)
  have h3 := pickZ_bd c.m 9 (by decide)
  have h4 := pickZ_bd (c.t.tdiv 4) 24 (by decide)
  have h5 := pickZ_bd c.t 9 (by decide)
  unfold okA okOne okMac msgT msgN
  refine ⟨by omega, ?_, by omega, ?_⟩
  · split <;> omega
  · split <;> omega

set_option maxRecDepth 100000 in
set_option maxHeartbeats 4000000 in
theorem message_any (c : Cl) (hc : c.ok) (w : World) :
    Calls Try.prog 13 #[clv c] w fun e w' => e = .returned (msgV c) ∧ Below w.heap.size w w' := by
  obtain ⟨k, a, m, t, o, s, ti, x1, x2, x3, x4, x5⟩ := c
  obtain ⟨hk, ⟨a1, a2⟩, ⟨m1, m2⟩, ⟨t1, t2⟩, ⟨o1, o2⟩, hs, hti, hx1, hx2, hx3, hx4, hx5⟩ := hc
  simp only at a1 a2 m1 m2 t1 t2 o1 o2
  clear hk hs hti hx1 hx2 hx3 hx4 hx5
  have hA := blk_alloc (blk_new w (clo ⟨k, a, m, t, o, s, ti, x1, x2, x3, x4, x5⟩)) (ao 0 0 0 0 0)
  go_enter Try.func13, Try.ntmps13
  go_wp2
  have c4 : (((w.alloc (clo ⟨k, a, m, t, o, s, ti, x1, x2, x3, x4, x5⟩)).alloc (ao 0 0 0 0 0)).drew).cell? ⟨w.heap.size, 4, none⟩ = some (.int .i64 o) := (blk_cell (k := 4) hA rfl).1
  have c1 : (((w.alloc (clo ⟨k, a, m, t, o, s, ti, x1, x2, x3, x4, x5⟩)).alloc (ao 0 0 0 0 0)).drew).cell? ⟨w.heap.size, 1, none⟩ = some (.int .i64 a) := (blk_cell (k := 1) hA rfl).1
  have c2 : (((w.alloc (clo ⟨k, a, m, t, o, s, ti, x1, x2, x3, x4, x5⟩)).alloc (ao 0 0 0 0 0)).drew).cell? ⟨w.heap.size, 2, none⟩ = some (.int .i64 m) := (blk_cell (k := 2) hA rfl).1
  go_region_held3 (fun w' => w'.cell? ⟨w.heap.size, 4, none⟩ = some (.int .i64 o) ∧ w'.cell? ⟨w.heap.size, 1, none⟩ = some (.int .i64 a) ∧ w'.cell? ⟨w.heap.size, 2, none⟩ = some (.int .i64 m))
    (first | exact ⟨c4, c1, c2⟩ | exact ⟨cell_alloc c4 _, cell_alloc c1 _, cell_alloc c2 _⟩)
    (first
      | (go_at_call 18; refine (pick_any _ _ _ (by assumption) (by assumption) (by decide) (by decide)).mono ?_; rintro e w' ⟨rfl, rfl⟩)
      | (go_at_call 24; refine (raddr_any _ _ (by assumption) (by assumption)).mono ?_; rintro e w' ⟨rfl, rfl⟩))
  all_goals
    have e1 : IntKind.i64.wrap (1 + pickZ o 2) = 1 + pickZ o 2 := IntWalk.i64_in _ (by have := pickZ_bd o 2 (by decide); omega)
    have e2 : IntKind.i64.wrap (1 + pickZ m 9) = 1 + pickZ m 9 := IntWalk.i64_in _ (by have := pickZ_bd m 9 (by decide); omega)
    rw [e1, e2]
    clear e1 e2 c4 c1 c2 hA
    have HP4 := fun w => pick_any t 4 w t1 t2 (by decide) (by decide)
    have HP9 := fun w => pick_any t 9 w t1 t2 (by decide) (by decide)
    obtain ⟨tb1, tb2⟩ := tdivB t 4 t1 t2 (by decide)
    have HPA := fun w => raddr_any (t.tdiv 4) w tb1 tb2
    have b1 := pickZ_bd o 2 (by decide)
    have b2 := pickZ_bd a 24 (by decide)
    have b3 := pickZ_bd m 9 (by decide)
    have b4 := pickZ_bd t 9 (by decide)
    have b5 := pickZ_bd (t.tdiv 4) 24 (by decide)
    have HV : Hid (msgV ⟨k, a, m, t, o, s, ti, x1, x2, x3, x4, x5⟩ = av (1 + pickZ o 2) (10 + pickZ a 24) (1 + pickZ m 9) (if pickZ t 4 = 0 then 10 + pickZ (t.tdiv 4) 24 else 10) (if 1 + pickZ o 2 = 2 then 1 + pickZ t 9 else 0)) := Lib.hid rfl
    generalize pickZ o 2 = po at *
    generalize pickZ a 24 = pa at *
    generalize pickZ m 9 = pm at *
    generalize pickZ t 9 = pn at *
    generalize pickZ (t.tdiv 4) 24 = pt at *
    generalize pickZ t 4 = p4 at *
    obtain ⟨b11, b12⟩ := b1
    obtain ⟨b21, b22⟩ := b2
    obtain ⟨b31, b32⟩ := b3
    obtain ⟨b41, b42⟩ := b4
    obtain ⟨b51, b52⟩ := b5
    have hA5 := blk_alloc (blk_alloc (blk_new w (clo ⟨k, a, m, t, o, s, ti, x1, x2, x3, x4, x5⟩)) (ao 0 0 0 0 0)) (ao (1 + po) (10 + pa) (1 + pm) 10 0)
    have hZ5 := blk_alloc (blk_new (w.alloc (clo ⟨k, a, m, t, o, s, ti, x1, x2, x3, x4, x5⟩)) (ao 0 0 0 0 0)) (ao (1 + po) (10 + pa) (1 + pm) 10 0)
    have hM5 := blk_new ((w.alloc (clo ⟨k, a, m, t, o, s, ti, x1, x2, x3, x4, x5⟩)).alloc (ao 0 0 0 0 0)) (ao (1 + po) (10 + pa) (1 + pm) 10 0)
    simp only [World.size_alloc] at hZ5 hM5
    have hA5 : (((w.alloc (clo ⟨k, a, m, t, o, s, ti, x1, x2, x3, x4, x5⟩)).alloc (ao 0 0 0 0 0)).alloc (ao (1 + po) (10 + pa) (1 + pm) 10 0)).drew.heap[w.heap.size]? = _ := hA5
    have hZ5 : (((w.alloc (clo ⟨k, a, m, t, o, s, ti, x1, x2, x3, x4, x5⟩)).alloc (ao 0 0 0 0 0)).alloc (ao (1 + po) (10 + pa) (1 + pm) 10 0)).drew.heap[w.heap.size + 1]? = _ := hZ5
    have hM5 : (((w.alloc (clo ⟨k, a, m, t, o, s, ti, x1, x2, x3, x4, x5⟩)).alloc (ao 0 0 0 0 0)).alloc (ao (1 + po) (10 + pa) (1 + pm) 10 0)).drew.heap[w.heap.size + 1 + 1]? = _ := hM5
    have hB5 : Below w.heap.size w ((((w.alloc (clo ⟨k, a, m, t, o, s, ti, x1, x2, x3, x4, x5⟩)).alloc (ao 0 0 0 0 0)).alloc (ao (1 + po) (10 + pa) (1 + pm) 10 0)).drew) := ((((Below.refl _ w).alloc (Nat.le_refl _) _).alloc (by simp) _).alloc (by simp; omega) _).drew
    revert hA5 hZ5 hM5 hB5
    generalize (((w.alloc (clo ⟨k, a, m, t, o, s, ti, x1, x2, x3, x4, x5⟩)).alloc (ao 0 0 0 0 0)).alloc (ao (1 + po) (10 + pa) (1 + pm) 10 0)).drew = W5
    intro hA5 hZ5 hM5 hB5
    have d3a : W5.cell? ⟨w.heap.size, 3, none⟩ = some (.int .i64 t) := (blk_cell (k := 3) hA5 rfl).1
    by_cases ht : p4 = 0
    · have htb : (p4 == 0) = true := by simpa using ht
      by_cases ho : 1 + po = 2
      · have hob : ((1 + po) == 2) = true := by simpa using ho
        rw [if_pos ht, if_pos ho] at HV
        clear ht ho
        obtain ⟨s3, f3⟩ : W5.cell? ⟨w.heap.size + 1 + 1, 3, none⟩ = some (.int .i64 10) ∧ W5.frozen? ⟨w.heap.size + 1 + 1, 3, none⟩ = false := blk_cell (k := 3) hM5 rfl
        have hM6 := blk_setc (k := 3) hM5 (.int .i64 (10 + pt))
        have hA6 := blk_set hA5 ⟨w.heap.size + 1 + 1, 3, none⟩ (by show w.heap.size + 1 + 1 ≠ w.heap.size; omega) (.int .i64 (10 + pt))
        have hZ6 := blk_set hZ5 ⟨w.heap.size + 1 + 1, 3, none⟩ (by show w.heap.size + 1 + 1 ≠ w.heap.size + 1; omega) (.int .i64 (10 + pt))
        have hB6 := hB5.setCell (p := ⟨w.heap.size + 1 + 1, 3, none⟩) (by show w.heap.size ≤ w.heap.size + 1 + 1; omega) (.int .i64 (10 + pt))
        have n0 : (W5.setCell ⟨w.heap.size + 1 + 1, 3, none⟩ (.int .i64 (10 + pt))).cell? ⟨w.heap.size + 1 + 1, 0, none⟩ = some (.int .i64 (1 + po)) := (blk_cell (k := 0) hM6 rfl).1
        have d3 : (W5.setCell ⟨w.heap.size + 1 + 1, 3, none⟩ (.int .i64 (10 + pt))).cell? ⟨w.heap.size, 3, none⟩ = some (.int .i64 t) := (blk_cell (k := 3) hA6 rfl).1
        obtain ⟨s4, f4⟩ : (W5.setCell ⟨w.heap.size + 1 + 1, 3, none⟩ (.int .i64 (10 + pt))).cell? ⟨w.heap.size + 1 + 1, 4, none⟩ = some (.int .i64 0) ∧ (W5.setCell ⟨w.heap.size + 1 + 1, 3, none⟩ (.int .i64 (10 + pt))).frozen? ⟨w.heap.size + 1 + 1, 4, none⟩ = false := blk_cell (k := 4) hM6 rfl
        have hM7 := blk_setc (k := 4) hM6 (.int .i64 (1 + pn))
        have hZ7 := blk_set hZ6 ⟨w.heap.size + 1 + 1, 4, none⟩ (by show w.heap.size + 1 + 1 ≠ w.heap.size + 1; omega) (.int .i64 (1 + pn))
        have hB7 := hB6.setCell (p := ⟨w.heap.size + 1 + 1, 4, none⟩) (by show w.heap.size ≤ w.heap.size + 1 + 1; omega) (.int .i64 (1 + pn))
        have l0 : ((W5.setCell ⟨w.heap.size + 1 + 1, 3, none⟩ (.int .i64 (10 + pt))).setCell ⟨w.heap.size + 1 + 1, 4, none⟩ (.int .i64 (1 + pn))).cell? ⟨w.heap.size + 1 + 1, 0, none⟩ = some (.int .i64 (1 + po)) := (blk_cell (k := 0) hM7 rfl).1
        have l1 : ((W5.setCell ⟨w.heap.size + 1 + 1, 3, none⟩ (.int .i64 (10 + pt))).setCell ⟨w.heap.size + 1 + 1, 4, none⟩ (.int .i64 (1 + pn))).cell? ⟨w.heap.size + 1 + 1, 1, none⟩ = some (.int .i64 (10 + pa)) := (blk_cell (k := 1) hM7 rfl).1
        have l2 : ((W5.setCell ⟨w.heap.size + 1 + 1, 3, none⟩ (.int .i64 (10 + pt))).setCell ⟨w.heap.size + 1 + 1, 4, none⟩ (.int .i64 (1 + pn))).cell? ⟨w.heap.size + 1 + 1, 2, none⟩ = some (.int .i64 (1 + pm)) := (blk_cell (k := 2) hM7 rfl).1
        have l3 : ((W5.setCell ⟨w.heap.size + 1 + 1, 3, none⟩ (.int .i64 (10 + pt))).setCell ⟨w.heap.size + 1 + 1, 4, none⟩ (.int .i64 (1 + pn))).cell? ⟨w.heap.size + 1 + 1, 3, none⟩ = some (.int .i64 (10 + pt)) := (blk_cell (k := 3) hM7 rfl).1
        have l4 : ((W5.setCell ⟨w.heap.size + 1 + 1, 3, none⟩ (.int .i64 (10 + pt))).setCell ⟨w.heap.size + 1 + 1, 4, none⟩ (.int .i64 (1 + pn))).cell? ⟨w.heap.size + 1 + 1, 4, none⟩ = some (.int .i64 (1 + pn)) := (blk_cell (k := 4) hM7 rfl).1
        obtain ⟨y0, g0⟩ : ((W5.setCell ⟨w.heap.size + 1 + 1, 3, none⟩ (.int .i64 (10 + pt))).setCell ⟨w.heap.size + 1 + 1, 4, none⟩ (.int .i64 (1 + pn))).cell? ⟨w.heap.size + 1, 0, none⟩ = some (.int .i64 0) ∧ ((W5.setCell ⟨w.heap.size + 1 + 1, 3, none⟩ (.int .i64 (10 + pt))).setCell ⟨w.heap.size + 1 + 1, 4, none⟩ (.int .i64 (1 + pn))).frozen? ⟨w.heap.size + 1, 0, none⟩ = false := blk_cell (k := 0) hZ7 rfl
        obtain ⟨y1, g1⟩ : ((W5.setCell ⟨w.heap.size + 1 + 1, 3, none⟩ (.int .i64 (10 + pt))).setCell ⟨w.heap.size + 1 + 1, 4, none⟩ (.int .i64 (1 + pn))).cell? ⟨w.heap.size + 1, 1, none⟩ = some (.int .i64 0) ∧ ((W5.setCell ⟨w.heap.size + 1 + 1, 3, none⟩ (.int .i64 (10 + pt))).setCell ⟨w.heap.size + 1 + 1, 4, none⟩ (.int .i64 (1 + pn))).frozen? ⟨w.heap.size + 1, 1, none⟩ = false := blk_cell (k := 1) hZ7 rfl
        obtain ⟨y2, g2⟩ : ((W5.setCell ⟨w.heap.size + 1 + 1, 3, none⟩ (.int .i64 (10 + pt))).setCell ⟨w.heap.size + 1 + 1, 4, none⟩ (.int .i64 (1 + pn))).cell? ⟨w.heap.size + 1, 2, none⟩ = some (.int .i64 0) ∧ ((W5.setCell ⟨w.heap.size + 1 + 1, 3, none⟩ (.int .i64 (10 + pt))).setCell ⟨w.heap.size + 1 + 1, 4, none⟩ (.int .i64 (1 + pn))).frozen? ⟨w.heap.size + 1, 2, none⟩ = false := blk_cell (k := 2) hZ7 rfl
        obtain ⟨y3, g3⟩ : ((W5.setCell ⟨w.heap.size + 1 + 1, 3, none⟩ (.int .i64 (10 + pt))).setCell ⟨w.heap.size + 1 + 1, 4, none⟩ (.int .i64 (1 + pn))).cell? ⟨w.heap.size + 1, 3, none⟩ = some (.int .i64 0) ∧ ((W5.setCell ⟨w.heap.size + 1 + 1, 3, none⟩ (.int .i64 (10 + pt))).setCell ⟨w.heap.size + 1 + 1, 4, none⟩ (.int .i64 (1 + pn))).frozen? ⟨w.heap.size + 1, 3, none⟩ = false := blk_cell (k := 3) hZ7 rfl
        obtain ⟨y4, g4⟩ : ((W5.setCell ⟨w.heap.size + 1 + 1, 3, none⟩ (.int .i64 (10 + pt))).setCell ⟨w.heap.size + 1 + 1, 4, none⟩ (.int .i64 (1 + pn))).cell? ⟨w.heap.size + 1, 4, none⟩ = some (.int .i64 0) ∧ ((W5.setCell ⟨w.heap.size + 1 + 1, 3, none⟩ (.int .i64 (10 + pt))).setCell ⟨w.heap.size + 1 + 1, 4, none⟩ (.int .i64 (1 + pn))).frozen? ⟨w.heap.size + 1, 4, none⟩ = false := blk_cell (k := 4) hZ7 rfl
        have HZ7 := Lib.hid hZ7
        have HB7 := Lib.hid hB7
        clear hM5 hM6 hM7 hA5 hA6 hZ5 hZ6 hZ7 hB5 hB6 hB7
        go_wp2_with (first
            | (go_at_call 18; refine (HP4 _).mono ?_; rintro e w' ⟨rfl, rfl⟩; clear HP4)
            | (go_at_call 18; refine (HP9 _).mono ?_; rintro e w' ⟨rfl, rfl⟩; clear HP9)
            | (go_at_call 24; refine (HPA _).mono ?_; rintro e w' ⟨rfl, rfl⟩; clear HPA))
        have q1 := set5_res HZ7.out (1 + po) (10 + pa) (1 + pm) (10 + pt) (1 + pn)
        have r0 := (blk_cell (k := 0) q1 rfl).1
        have r1 := (blk_cell (k := 1) q1 rfl).1
        have r2 := (blk_cell (k := 2) q1 rfl).1
        have r3 := (blk_cell (k := 3) q1 rfl).1
        have r4 := (blk_cell (k := 4) q1 rfl).1
        simp only [List.getElem_toArray, List.getElem_cons_zero, List.getElem_cons_succ] at r0 r1 r2 r3 r4
        have q2 := set5_below HB7.out (show w.heap.size ≤ w.heap.size + 1 by omega) (1 + po) (10 + pa) (1 + pm) (10 + pt) (1 + pn)
        refine bodyPost_ret (v := av (1 + po) (10 + pa) (1 + pm) (10 + pt) (1 + pn)) (by simp [results, Try.results13, go_sem, r0, r1, r2, r3, r4]; try rfl) rfl ⟨?_, q2⟩
        rw [HV.out]
      · have hob : ((1 + po) == 2) = false := by simpa using ho
        rw [if_pos ht, if_neg ho] at HV
        clear ht ho
        obtain ⟨s3, f3⟩ : W5.cell? ⟨w.heap.size + 1 + 1, 3, none⟩ = some (.int .i64 10) ∧ W5.frozen? ⟨w.heap.size + 1 + 1, 3, none⟩ = false := blk_cell (k := 3) hM5 rfl
        have hM6 := blk_setc (k := 3) hM5 (.int .i64 (10 + pt))
        have hA6 := blk_set hA5 ⟨w.heap.size + 1 + 1, 3, none⟩ (by show w.heap.size + 1 + 1 ≠ w.heap.size; omega) (.int .i64 (10 + pt))
        have hZ6 := blk_set hZ5 ⟨w.heap.size + 1 + 1, 3, none⟩ (by show w.heap.size + 1 + 1 ≠ w.heap.size + 1; omega) (.int .i64 (10 + pt))
        have hB6 := hB5.setCell (p := ⟨w.heap.size + 1 + 1, 3, none⟩) (by show w.heap.size ≤ w.heap.size + 1 + 1; omega) (.int .i64 (10 + pt))
        have n0 : (W5.setCell ⟨w.heap.size + 1 + 1, 3, none⟩ (.int .i64 (10 + pt))).cell? ⟨w.heap.size + 1 + 1, 0, none⟩ = some (.int .i64 (1 + po)) := (blk_cell (k := 0) hM6 rfl).1
        have hM7 := hM6
        have hZ7 := hZ6
        have hB7 := hB6
        have l0 : (W5.setCell ⟨w.heap.size + 1 + 1, 3, none⟩ (.int .i64 (10 + pt))).cell? ⟨w.heap.size + 1 + 1, 0, none⟩ = some (.int .i64 (1 + po)) := (blk_cell (k := 0) hM7 rfl).1
        have l1 : (W5.setCell ⟨w.heap.size + 1 + 1, 3, none⟩ (.int .i64 (10 + pt))).cell? ⟨w.heap.size + 1 + 1, 1, none⟩ = some (.int .i64 (10 + pa)) := (blk_cell (k := 1) hM7 rfl).1
        have l2 : (W5.setCell ⟨w.heap.size + 1 + 1, 3, none⟩ (.int .i64 (10 + pt))).cell? ⟨w.heap.size + 1 + 1, 2, none⟩ = some (.int .i64 (1 + pm)) := (blk_cell (k := 2) hM7 rfl).1
        have l3 : (W5.setCell ⟨w.heap.size + 1 + 1, 3, none⟩ (.int .i64 (10 + pt))).cell? ⟨w.heap.size + 1 + 1, 3, none⟩ = some (.int .i64 (10 + pt)) := (blk_cell (k := 3) hM7 rfl).1
        have l4 : (W5.setCell ⟨w.heap.size + 1 + 1, 3, none⟩ (.int .i64 (10 + pt))).cell? ⟨w.heap.size + 1 + 1, 4, none⟩ = some (.int .i64 (0)) := (blk_cell (k := 4) hM7 rfl).1
        obtain ⟨y0, g0⟩ : (W5.setCell ⟨w.heap.size + 1 + 1, 3, none⟩ (.int .i64 (10 + pt))).cell? ⟨w.heap.size + 1, 0, none⟩ = some (.int .i64 0) ∧ (W5.setCell ⟨w.heap.size + 1 + 1, 3, none⟩ (.int .i64 (10 + pt))).frozen? ⟨w.heap.size + 1, 0, none⟩ = false := blk_cell (k := 0) hZ7 rfl
        obtain ⟨y1, g1⟩ : (W5.setCell ⟨w.heap.size + 1 + 1, 3, none⟩ (.int .i64 (10 + pt))).cell? ⟨w.heap.size + 1, 1, none⟩ = some (.int .i64 0) ∧ (W5.setCell ⟨w.heap.size + 1 + 1, 3, none⟩ (.int .i64 (10 + pt))).frozen? ⟨w.heap.size + 1, 1, none⟩ = false := blk_cell (k := 1) hZ7 rfl
        obtain ⟨y2, g2⟩ : (W5.setCell ⟨w.heap.size + 1 + 1, 3, none⟩ (.int .i64 (10 + pt))).cell? ⟨w.heap.size + 1, 2, none⟩ = some (.int .i64 0) ∧ (W5.setCell ⟨w.heap.size + 1 + 1, 3, none⟩ (.int .i64 (10 + pt))).frozen? ⟨w.heap.size + 1, 2, none⟩ = false := blk_cell (k := 2) hZ7 rfl
        obtain ⟨y3, g3⟩ : (W5.setCell ⟨w.heap.size + 1 + 1, 3, none⟩ (.int .i64 (10 + pt))).cell? ⟨w.heap.size + 1, 3, none⟩ = some (.int .i64 0) ∧ (W5.setCell ⟨w.heap.size + 1 + 1, 3, none⟩ (.int .i64 (10 + pt))).frozen? ⟨w.heap.size + 1, 3, none⟩ = false := blk_cell (k := 3) hZ7 rfl
        obtain ⟨y4, g4⟩ : (W5.setCell ⟨w.heap.size + 1 + 1, 3, none⟩ (.int .i64 (10 + pt))).cell? ⟨w.heap.size + 1, 4, none⟩ = some (.int .i64 0) ∧ (W5.setCell ⟨w.heap.size + 1 + 1, 3, none⟩ (.int .i64 (10 + pt))).frozen? ⟨w.heap.size + 1, 4, none⟩ = false := blk_cell (k := 4) hZ7 rfl
        have HZ7 := Lib.hid hZ7
        have HB7 := Lib.hid hB7
        clear hM5 hM6 hM7 hA5 hA6 hZ5 hZ6 hZ7 hB5 hB6 hB7
        go_wp2_with (first
            | (go_at_call 18; refine (HP4 _).mono ?_; rintro e w' ⟨rfl, rfl⟩; clear HP4)
            | (go_at_call 18; refine (HP9 _).mono ?_; rintro e w' ⟨rfl, rfl⟩; clear HP9)
            | (go_at_call 24; refine (HPA _).mono ?_; rintro e w' ⟨rfl, rfl⟩; clear HPA))
        have q1 := set5_res HZ7.out (1 + po) (10 + pa) (1 + pm) (10 + pt) (0)
        have r0 := (blk_cell (k := 0) q1 rfl).1
        have r1 := (blk_cell (k := 1) q1 rfl).1
        have r2 := (blk_cell (k := 2) q1 rfl).1
        have r3 := (blk_cell (k := 3) q1 rfl).1
        have r4 := (blk_cell (k := 4) q1 rfl).1
        simp only [List.getElem_toArray, List.getElem_cons_zero, List.getElem_cons_succ] at r0 r1 r2 r3 r4
        have q2 := set5_below HB7.out (show w.heap.size ≤ w.heap.size + 1 by omega) (1 + po) (10 + pa) (1 + pm) (10 + pt) (0)
        refine bodyPost_ret (v := av (1 + po) (10 + pa) (1 + pm) (10 + pt) (0)) (by simp [results, Try.results13, go_sem, r0, r1, r2, r3, r4]; try rfl) rfl ⟨?_, q2⟩
        rw [HV.out]
    · have htb : (p4 == 0) = false := by simpa using ht
      by_cases ho : 1 + po = 2
      · have hob : ((1 + po) == 2) = true := by simpa using ho
        rw [if_neg ht, if_pos ho] at HV
        clear ht ho
        have hM6 := hM5
        have hA6 := hA5
        have hZ6 := hZ5
        have hB6 := hB5
        have n0 : W5.cell? ⟨w.heap.size + 1 + 1, 0, none⟩ = some (.int .i64 (1 + po)) := (blk_cell (k := 0) hM6 rfl).1
        have d3 : W5.cell? ⟨w.heap.size, 3, none⟩ = some (.int .i64 t) := (blk_cell (k := 3) hA6 rfl).1
        obtain ⟨s4, f4⟩ : W5.cell? ⟨w.heap.size + 1 + 1, 4, none⟩ = some (.int .i64 0) ∧ W5.frozen? ⟨w.heap.size + 1 + 1, 4, none⟩ = false := blk_cell (k := 4) hM6 rfl
        have hM7 := blk_setc (k := 4) hM6 (.int .i64 (1 + pn))
        have hZ7 := blk_set hZ6 ⟨w.heap.size + 1 + 1, 4, none⟩ (by show w.heap.size + 1 + 1 ≠ w.heap.size + 1; omega) (.int .i64 (1 + pn))
        have hB7 := hB6.setCell (p := ⟨w.heap.size + 1 + 1, 4, none⟩) (by show w.heap.size ≤ w.heap.size + 1 + 1; omega) (.int .i64 (1 + pn))
        have l0 : (W5.setCell ⟨w.heap.size + 1 + 1, 4, none⟩ (.int .i64 (1 + pn))).cell? ⟨w.heap.size + 1 + 1, 0, none⟩ = some (.int .i64 (1 + po)) := (blk_cell (k := 0) hM7 rfl).1
        have l1 : (W5.setCell ⟨w.heap.size + 1 + 1, 4, none⟩ (.int .i64 (1 + pn))).cell? ⟨w.heap.size + 1 + 1, 1, none⟩ = some (.int .i64 (10 + pa)) := (blk_cell (k := 1) hM7 rfl).1
        have l2 : (W5.setCell ⟨w.heap.size + 1 + 1, 4, none⟩ (.int .i64 (1 + pn))).cell? ⟨w.heap.size + 1 + 1, 2, none⟩ = some (.int .i64 (1 + pm)) := (blk_cell (k := 2) hM7 rfl).1
        have l3 : (W5.setCell ⟨w.heap.size + 1 + 1, 4, none⟩ (.int .i64 (1 + pn))).cell? ⟨w.heap.size + 1 + 1, 3, none⟩ = some (.int .i64 (10)) := (blk_cell (k := 3) hM7 rfl).1
        have l4 : (W5.setCell ⟨w.heap.size + 1 + 1, 4, none⟩ (.int .i64 (1 + pn))).cell? ⟨w.heap.size + 1 + 1, 4, none⟩ = some (.int .i64 (1 + pn)) := (blk_cell (k := 4) hM7 rfl).1
        obtain ⟨y0, g0⟩ : (W5.setCell ⟨w.heap.size + 1 + 1, 4, none⟩ (.int .i64 (1 + pn))).cell? ⟨w.heap.size + 1, 0, none⟩ = some (.int .i64 0) ∧ (W5.setCell ⟨w.heap.size + 1 + 1, 4, none⟩ (.int .i64 (1 + pn))).frozen? ⟨w.heap.size + 1, 0, none⟩ = false := blk_cell (k := 0) hZ7 rfl
        obtain ⟨y1, g1⟩ : (W5.setCell ⟨w.heap.size + 1 + 1, 4, none⟩ (.int .i64 (1 + pn))).cell? ⟨w.heap.size + 1, 1, none⟩ = some (.int .i64 0) ∧ (W5.setCell ⟨w.heap.size + 1 + 1, 4, none⟩ (.int .i64 (1 + pn))).frozen? ⟨w.heap.size + 1, 1, none⟩ = false := blk_cell (k := 1) hZ7 rfl
        obtain ⟨y2, g2⟩ : (W5.setCell ⟨w.heap.size + 1 + 1, 4, none⟩ (.int .i64 (1 + pn))).cell? ⟨w.heap.size + 1, 2, none⟩ = some (.int .i64 0) ∧ (W5.setCell ⟨w.heap.size + 1 + 1, 4, none⟩ (.int .i64 (1 + pn))).frozen? ⟨w.heap.size + 1, 2, none⟩ = false := blk_cell (k := 2) hZ7 rfl
        obtain ⟨y3, g3⟩ : (W5.setCell ⟨w.heap.size + 1 + 1, 4, none⟩ (.int .i64 (1 + pn))).cell? ⟨w.heap.size + 1, 3, none⟩ = some (.int .i64 0) ∧ (W5.setCell ⟨w.heap.size + 1 + 1, 4, none⟩ (.int .i64 (1 + pn))).frozen? ⟨w.heap.size + 1, 3, none⟩ = false := blk_cell (k := 3) hZ7 rfl
        obtain ⟨y4, g4⟩ : (W5.setCell ⟨w.heap.size + 1 + 1, 4, none⟩ (.int .i64 (1 + pn))).cell? ⟨w.heap.size + 1, 4, none⟩ = some (.int .i64 0) ∧ (W5.setCell ⟨w.heap.size + 1 + 1, 4, none⟩ (.int .i64 (1 + pn))).frozen? ⟨w.heap.size + 1, 4, none⟩ = false := blk_cell (k := 4) hZ7 rfl
        have HZ7 := Lib.hid hZ7
        have HB7 := Lib.hid hB7
        clear hM5 hM6 hM7 hA5 hA6 hZ5 hZ6 hZ7 hB5 hB6 hB7
        go_wp2_with (first
            | (go_at_call 18; refine (HP4 _).mono ?_; rintro e w' ⟨rfl, rfl⟩; clear HP4)
            | (go_at_call 18; refine (HP9 _).mono ?_; rintro e w' ⟨rfl, rfl⟩; clear HP9)
            | (go_at_call 24; refine (HPA _).mono ?_; rintro e w' ⟨rfl, rfl⟩; clear HPA))
        have q1 := set5_res HZ7.out (1 + po) (10 + pa) (1 + pm) (10) (1 + pn)
        have r0 := (blk_cell (k := 0) q1 rfl).1
        have r1 := (blk_cell (k := 1) q1 rfl).1
        have r2 := (blk_cell (k := 2) q1 rfl).1
        have r3 := (blk_cell (k := 3) q1 rfl).1
        have r4 := (blk_cell (k := 4) q1 rfl).1
        simp only [List.getElem_toArray, List.getElem_cons_zero, List.getElem_cons_succ] at r0 r1 r2 r3 r4
        have q2 := set5_below HB7.out (show w.heap.size ≤ w.heap.size + 1 by omega) (1 + po) (10 + pa) (1 + pm) (10) (1 + pn)
        refine bodyPost_ret (v := av (1 + po) (10 + pa) (1 + pm) (10) (1 + pn)) (by simp [results, Try.results13, go_sem, r0, r1, r2, r3, r4]; try rfl) rfl ⟨?_, q2⟩
        rw [HV.out]
      · have hob : ((1 + po) == 2) = false := by simpa using ho
        rw [if_neg ht, if_neg ho] at HV
        clear ht ho
        have hM6 := hM5
        have hA6 := hA5
        have hZ6 := hZ5
        have hB6 := hB5
        have n0 : W5.cell? ⟨w.heap.size + 1 + 1, 0, none⟩ = some (.int .i64 (1 + po)) := (blk_cell (k := 0) hM6 rfl).1
        have hM7 := hM6
        have hZ7 := hZ6
        have hB7 := hB6
        have l0 : W5.cell? ⟨w.heap.size + 1 + 1, 0, none⟩ = some (.int .i64 (1 + po)) := (blk_cell (k := 0) hM7 rfl).1
        have l1 : W5.cell? ⟨w.heap.size + 1 + 1, 1, none⟩ = some (.int .i64 (10 + pa)) := (blk_cell (k := 1) hM7 rfl).1
        have l2 : W5.cell? ⟨w.heap.size + 1 + 1, 2, none⟩ = some (.int .i64 (1 + pm)) := (blk_cell (k := 2) hM7 rfl).1
        have l3 : W5.cell? ⟨w.heap.size + 1 + 1, 3, none⟩ = some (.int .i64 (10)) := (blk_cell (k := 3) hM7 rfl).1
        have l4 : W5.cell? ⟨w.heap.size + 1 + 1, 4, none⟩ = some (.int .i64 (0)) := (blk_cell (k := 4) hM7 rfl).1
        obtain ⟨y0, g0⟩ : W5.cell? ⟨w.heap.size + 1, 0, none⟩ = some (.int .i64 0) ∧ W5.frozen? ⟨w.heap.size + 1, 0, none⟩ = false := blk_cell (k := 0) hZ7 rfl
        obtain ⟨y1, g1⟩ : W5.cell? ⟨w.heap.size + 1, 1, none⟩ = some (.int .i64 0) ∧ W5.frozen? ⟨w.heap.size + 1, 1, none⟩ = false := blk_cell (k := 1) hZ7 rfl
        obtain ⟨y2, g2⟩ : W5.cell? ⟨w.heap.size + 1, 2, none⟩ = some (.int .i64 0) ∧ W5.frozen? ⟨w.heap.size + 1, 2, none⟩ = false := blk_cell (k := 2) hZ7 rfl
        obtain ⟨y3, g3⟩ : W5.cell? ⟨w.heap.size + 1, 3, none⟩ = some (.int .i64 0) ∧ W5.frozen? ⟨w.heap.size + 1, 3, none⟩ = false := blk_cell (k := 3) hZ7 rfl
        obtain ⟨y4, g4⟩ : W5.cell? ⟨w.heap.size + 1, 4, none⟩ = some (.int .i64 0) ∧ W5.frozen? ⟨w.heap.size + 1, 4, none⟩ = false := blk_cell (k := 4) hZ7 rfl
        have HZ7 := Lib.hid hZ7
        have HB7 := Lib.hid hB7
        clear hM5 hM6 hM7 hA5 hA6 hZ5 hZ6 hZ7 hB5 hB6 hB7
        go_wp2_with (first
            | (go_at_call 18; refine (HP4 _).mono ?_; rintro e w' ⟨rfl, rfl⟩; clear HP4)
            | (go_at_call 18; refine (HP9 _).mono ?_; rintro e w' ⟨rfl, rfl⟩; clear HP9)
            | (go_at_call 24; refine (HPA _).mono ?_; rintro e w' ⟨rfl, rfl⟩; clear HPA))
        have q1 := set5_res HZ7.out (1 + po) (10 + pa) (1 + pm) (10) (0)
        have r0 := (blk_cell (k := 0) q1 rfl).1
        have r1 := (blk_cell (k := 1) q1 rfl).1
        have r2 := (blk_cell (k := 2) q1 rfl).1
        have r3 := (blk_cell (k := 3) q1 rfl).1
        have r4 := (blk_cell (k := 4) q1 rfl).1
        simp only [List.getElem_toArray, List.getElem_cons_zero, List.getElem_cons_succ] at r0 r1 r2 r3 r4
        have q2 := set5_below HB7.out (show w.heap.size ≤ w.heap.size + 1 by omega) (1 + po) (10 + pa) (1 + pm) (10) (0)
        refine bodyPost_ret (v := av (1 + po) (10 + pa) (1 + pm) (10) (0)) (by simp [results, Try.results13, go_sem, r0, r1, r2, r3, r4]; try rfl) rfl ⟨?_, q2⟩
        rw [HV.out]
end Go.Proofs.Ytpkfjlbjahghgaa

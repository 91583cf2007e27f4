/- Contracts of the small functions of package reassembly, and of ticks.Elapsed. -/
import Derived.Test.YtecboengeheapaaRtTab
import Derived.Test.YtecboengeheapaaIpEq
import Derived.BigRegion
import Derived.StillTailTactics
namespace Go.Proofs.Ytecboengeheapaa
open Go.RowKit Go.Maps
set_option linter.unusedVariables false
attribute [local go_sem] Oper.semAt_some

theorem elapsed_any (since now ticks : Int) (w : World) (h1 : -9223372036854775808 ≤ since) (h2 : since ≤ 9223372036854775807) (h3 : -9223372036854775808 ≤ now) (h4 : now ≤ 9223372036854775807) (h5 : 0 ≤ ticks) (h6 : ticks ≤ 1000000) :
    Calls Try.prog 62 #[.int .i64 since, .int .i64 now, .int .i64 ticks] w fun e w' => e = .returned (.bool (decide (since ≤ now ∧ ticks ≤ now - since))) ∧ w = w' := by
  have hw : ∀ x : Int, IntKind.u64.wrap x = x % 18446744073709551616 := fun x => by
    have a1 : IntKind.u64.signed = false := rfl
    have a2 : IntKind.u64.bits = 64 := rfl
    simp [IntKind.wrap, a1, a2]
  rcases Int.lt_or_le now since with hlt | hle
  · go_enter Try.func62, Try.ntmps62
    go_wp2
    go_ret
    exact ⟨ret_bool (by rw [decide_eq_false (p := since ≤ now) (by omega)]; rfl), rfl⟩
  · have e : IntKind.u64.wrap (IntKind.u64.wrap now - IntKind.u64.wrap since) = now - since := by rw [hw, hw, hw]; omega
    have e2 : IntKind.u64.wrap ticks = ticks := by rw [hw]; omega
    go_enter Try.func62, Try.ntmps62
    go_wp2
    go_ret
    refine ⟨ret_bool ?_, rfl⟩
    rw [decide_eq_decide]
    first | omega | (rw [e]; omega) | (rw [e, e2]; omega)

theorem key_any (p : Pk) (w : World) :
    Calls Try.prog 51 #[pv p] w fun e w' => e = .returned (kv (kyOf p)) ∧ Below w.heap.size w w' := by
  go_enter Try.func51, Try.ntmps51
  go_wp2
  go_returns
  refine ⟨rfl, ?_⟩
  go_grown

theorem end_any (p : Pk) (h1 : 0 ≤ p.off) (h2 : p.off ≤ 1000000) (hs : p.s.size ≤ 1000000) (w : World) :
    Calls Try.prog 78 #[pv p] w fun e w' => e = .returned (.int .i64 (p.off + (p.s.size : Int))) ∧ Below w.heap.size w w' := by
  have hw : wrap64 (p.off + (p.s.size : Int)) = p.off + (p.s.size : Int) := IntWalk.wrap64_in _ ⟨by omega, by omega⟩
  go_enter Try.func78, Try.ntmps78
  go_wp2
  go_returns
  refine ⟨rfl, ?_⟩
  go_grown

theorem new_any (w : World) :
    Calls Try.prog 28 #[] w fun e w' => ∃ T mb, e = .returned (.pointer (some ⟨T, 0, none⟩)) ∧ Below w.heap.size w w' ∧ TabP w' w.heap.size T mb 0 [] := by
  have hmm := @run_makeMap Try.prog
  go_enter Try.func28, Try.ntmps28
  go_wp2
  go_ret
  refine ⟨_, _, rfl, ((Below.refl _ w).alloc (Nat.le_refl _) _).alloc (by simp) _, ⟨⟨by omega, Nat.le_refl _⟩, ?_, ?_, by simp, by simp [allB], by simp, by simp⟩⟩
  · have := blk_new (w.alloc (.map #[] 0)) (rto w.heap.size 0)
    simpa using this
  · exact (World.ownsMap_made w Try.prog 94 raw).alloc _

/-- the datagram's block, its cells laid out -/
theorem dg_cells {w : World} {b : Nat} {x : Dg} {tv rv : Value} (h : w.heap[b]? = some (dgo x tv rv)) :
    w.cell? ⟨b, 0, none⟩ = some (.int .i64 x.num) ∧ w.cell? ⟨b, 1, none⟩ = some (.int .i64 x.st) ∧ w.cell? ⟨b, 2, none⟩ = some (.bool x.rej) ∧ w.cell? ⟨b, 12, none⟩ = some tv ∧ w.cell? ⟨b, 13, none⟩ = some rv ∧ w.cell? ⟨b, 14, none⟩ = some (.bool x.fin) :=
  ⟨(blk_cell (k := 0) h rfl).1, (blk_cell (k := 1) h rfl).1, (blk_cell (k := 2) h rfl).1, (blk_cell (k := 12) h rfl).1, (blk_cell (k := 13) h rfl).1, (blk_cell (k := 14) h rfl).1⟩
theorem dg_first {w : World} {b : Nat} {x : Dg} {tv rv : Value} (h : w.heap[b]? = some (dgo x tv rv)) :
    w.cell? ⟨b, 3, none⟩ = some (.int .i64 x.fst.fr) ∧ w.cell? ⟨b, 4, none⟩ = some (.int .i64 x.fst.to) ∧ w.cell? ⟨b, 5, none⟩ = some (.int .i64 x.fst.pr) ∧ w.cell? ⟨b, 6, none⟩ = some (.int .i64 x.fst.tt) ∧ w.cell? ⟨b, 7, none⟩ = some (.int .i64 x.fst.id) ∧ w.cell? ⟨b, 8, none⟩ = some (.bool x.fst.df) ∧ w.cell? ⟨b, 9, none⟩ = some (.bool x.fst.mf) ∧ w.cell? ⟨b, 10, none⟩ = some (.int .i64 x.fst.off) ∧ w.cell? ⟨b, 11, none⟩ = some (.string x.fst.s) :=
  ⟨(blk_cell (k := 3) h rfl).1, (blk_cell (k := 4) h rfl).1, (blk_cell (k := 5) h rfl).1, (blk_cell (k := 6) h rfl).1, (blk_cell (k := 7) h rfl).1, (blk_cell (k := 8) h rfl).1, (blk_cell (k := 9) h rfl).1, (blk_cell (k := 10) h rfl).1, (blk_cell (k := 11) h rfl).1⟩

def begun (x : Dg) : Bool := !pkEq x.fst pz
theorem begun_any {w : World} {b : Nat} {x : Dg} {tv rv : Value} (h : w.heap[b]? = some (dgo x tv rv)) :
    Calls Try.prog 63 #[.pointer (some ⟨b, 0, none⟩)] w fun e w' => e = .returned (.bool (begun x)) ∧ w = w' := by
  obtain ⟨c0, c1, c2, c3, c4, c5, c6, c7, c8⟩ := dg_first h
  have he : ∀ w, (Op.equalIn 10000 26 (pv x.fst) (pv pz)).run Try.prog w = .ok (pkEq x.fst pz) w := run_pkEq x.fst pz
  unfold begun
  go_enter Try.func63, Try.ntmps63
  go_wp2
  go_ret
  exact ⟨rfl, rfl⟩

theorem Touch.setc {S : Nat → Prop} {w w1 : World} (h : Touch S w w1) {a : Addr} (u : Value) (hs : S a.block) : Touch S w (w1.setCell a u) :=
  ⟨h.os, h.tape, h.output, by simp [h.size], fun k hk hn => (Below.heap_setCell w1 a u k (fun e => hn (by rw [e]; exact hs))).trans (h.block k hk hn)⟩
theorem grown_setc (w : World) (a : Addr) (u : Value) : w.grownBy (w.setCell a u) (some a.block) :=
  ⟨rfl, rfl, rfl, by simp, fun k _ hk => Below.heap_setCell w a u k (fun e => hk (by rw [e]))⟩
def rejD (x : Dg) : Dg := ⟨x.k, x.num, x.st, true, pz, [], [], false⟩
set_option maxRecDepth 20000 in
set_option maxHeartbeats 1600000 in
theorem reject_any {w : World} {b : Nat} {x : Dg} {tv rv : Value} (h : w.heap[b]? = some (dgo x tv rv)) :
    Calls Try.prog 53 #[.pointer (some ⟨b, 0, none⟩)] w fun e w' => e = .returned (.tuple #[]) ∧ w'.heap[b]? = some (dgo (rejD x) (.slice none 0 0) (.slice none 0 0)) ∧ Touch (fun k => k = b) w w' := by
  obtain ⟨c0, c1, -, -, -, -⟩ := dg_cells h
  go_enter Try.func53, Try.ntmps53
  go_still_tail 11, (by kernel_rfl)
  change wpList _ _ _ _ _ w.drew
  have h2 : w.drew.heap[b]? = some (dgo x tv rv) := h
  have ht : Touch (fun k => k = b) w w.drew := ⟨rfl, rfl, rfl, Nat.le_refl _, fun _ _ _ => rfl⟩
  generalize w.drew = w2 at h2 ht ⊢
  obtain ⟨d0, e0⟩ := blk_cell (k := 0) h2 rfl
  obtain ⟨d1, e1⟩ := blk_cell (k := 1) h2 rfl
  obtain ⟨d2, e2⟩ := blk_cell (k := 2) h2 rfl
  obtain ⟨d3, e3⟩ := blk_cell (k := 3) h2 rfl
  obtain ⟨d4, e4⟩ := blk_cell (k := 4) h2 rfl
  obtain ⟨d5, e5⟩ := blk_cell (k := 5) h2 rfl
  obtain ⟨d6, e6⟩ := blk_cell (k := 6) h2 rfl
  obtain ⟨d7, e7⟩ := blk_cell (k := 7) h2 rfl
  obtain ⟨d8, e8⟩ := blk_cell (k := 8) h2 rfl
  obtain ⟨d9, e9⟩ := blk_cell (k := 9) h2 rfl
  obtain ⟨d10, e10⟩ := blk_cell (k := 10) h2 rfl
  obtain ⟨d11, e11⟩ := blk_cell (k := 11) h2 rfl
  obtain ⟨d12, e12⟩ := blk_cell (k := 12) h2 rfl
  obtain ⟨d13, e13⟩ := blk_cell (k := 13) h2 rfl
  obtain ⟨d14, e14⟩ := blk_cell (k := 14) h2 rfl
  simp only [List.getElem_toArray, List.getElem_cons_zero, List.getElem_cons_succ] at d0 d1 d2 d3 d4 d5 d6 d7 d8 d9 d10 d11 d12 d13 d14
  clear c0 c1
  go_wp2
  clear d0 e0 d1 e1 d2 e2 d3 e3 d4 e4 d5 e5 d6 e6 d7 e7 d8 e8 d9 e9 d10 e10 d11 e11 d12 e12 d13 e13 d14 e14
  refine bodyPost_end (v := .tuple #[]) (by simp [results, Try.results53, go_sem]; try rfl) rfl ?_
  have g1 := blk_setc (k := 0) h2 (.int .i64 x.num)
  have g2 := blk_setc (k := 1) g1 (.int .i64 x.st)
  have g3 := blk_setc (k := 2) g2 (.bool true)
  have g4 := blk_setc (k := 3) g3 (.int .i64 0)
  have g5 := blk_setc (k := 4) g4 (.int .i64 0)
  have g6 := blk_setc (k := 5) g5 (.int .i64 0)
  have g7 := blk_setc (k := 6) g6 (.int .i64 0)
  have g8 := blk_setc (k := 7) g7 (.int .i64 0)
  have g9 := blk_setc (k := 8) g8 (.bool false)
  have g10 := blk_setc (k := 9) g9 (.bool false)
  have g11 := blk_setc (k := 10) g10 (.int .i64 0)
  have g12 := blk_setc (k := 11) g11 (.string ⟨#[]⟩)
  have g13 := blk_setc (k := 12) g12 (.slice none 0 0)
  have g14 := blk_setc (k := 13) g13 (.slice none 0 0)
  have g15 := blk_setc (k := 14) g14 (.bool false)
  have t1 := Touch.setc (a := ⟨b, 0, none⟩) ht (.int .i64 x.num) rfl
  have t2 := Touch.setc (a := ⟨b, 1, none⟩) t1 (.int .i64 x.st) rfl
  have t3 := Touch.setc (a := ⟨b, 2, none⟩) t2 (.bool true) rfl
  have t4 := Touch.setc (a := ⟨b, 3, none⟩) t3 (.int .i64 0) rfl
  have t5 := Touch.setc (a := ⟨b, 4, none⟩) t4 (.int .i64 0) rfl
  have t6 := Touch.setc (a := ⟨b, 5, none⟩) t5 (.int .i64 0) rfl
  have t7 := Touch.setc (a := ⟨b, 6, none⟩) t6 (.int .i64 0) rfl
  have t8 := Touch.setc (a := ⟨b, 7, none⟩) t7 (.int .i64 0) rfl
  have t9 := Touch.setc (a := ⟨b, 8, none⟩) t8 (.bool false) rfl
  have t10 := Touch.setc (a := ⟨b, 9, none⟩) t9 (.bool false) rfl
  have t11 := Touch.setc (a := ⟨b, 10, none⟩) t10 (.int .i64 0) rfl
  have t12 := Touch.setc (a := ⟨b, 11, none⟩) t11 (.string ⟨#[]⟩) rfl
  have t13 := Touch.setc (a := ⟨b, 12, none⟩) t12 (.slice none 0 0) rfl
  have t14 := Touch.setc (a := ⟨b, 13, none⟩) t13 (.slice none 0 0) rfl
  have t15 := Touch.setc (a := ⟨b, 14, none⟩) t14 (.bool false) rfl
  simp only [List.setIfInBounds_toArray, List.set_cons_zero, List.set_cons_succ] at g15
  exact ⟨rfl, g15, t15⟩
end Go.Proofs.Ytecboengeheapaa

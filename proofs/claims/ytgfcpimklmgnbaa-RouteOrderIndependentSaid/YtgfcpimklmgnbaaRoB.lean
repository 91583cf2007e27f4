/- Contracts of ValidInterface, the program's and the document's. -/
import Derived.Test.YtgfcpimklmgnbaaRoA
import Derived.Test.YtgfcpimklmgnbaaRefB
namespace Go.Proofs.Ytgfcpimklmgnbaa
open Go.RowKit
set_option linter.unusedVariables false

theorem blk5 (w : World) (f : Fc) : (w.alloc (fo f)).cell? ⟨w.heap.size, 0, none⟩ = some (.int .i64 f.mac) ∧ (w.alloc (fo f)).cell? ⟨w.heap.size, 1, none⟩ = some (.int .i64 f.addr) ∧ (w.alloc (fo f)).cell? ⟨w.heap.size, 2, none⟩ = some (.int .i64 f.na) ∧ (w.alloc (fo f)).cell? ⟨w.heap.size, 3, none⟩ = some (.int .i64 f.nb) ∧ (w.alloc (fo f)).cell? ⟨w.heap.size, 4, none⟩ = some (.int .i64 f.mtu) := by
  refine ⟨?_, ?_, ?_, ?_, ?_⟩ <;> simp
theorem ok_F (f : Fc) : okF f = ((decide (1 ≤ f.mac) && decide (f.mac ≤ 65534)) && (uni f.addr && (contZ f.na f.nb f.addr && (decide (68 ≤ f.mtu) && decide (f.mtu ≤ 1024))))) := rfl

set_option maxRecDepth 20000 in
set_option maxHeartbeats 1600000 in
theorem vif_any (f : Fc) (hf : InF f) (w : World) :
    Calls Try.prog 19 #[fv f] w fun e w' => e = .returned (.bool (okF f)) ∧ Below w.heap.size w w' := by
  have H1 := Lib.hid (within_any f.mac 1 65534)
  have H2 := Lib.hid (uni_any f.addr)
  have H3 := fun w => Lib.hid (cont_any f.na f.nb f.addr w hf.2.2.1.1 hf.2.2.1.2 hf.2.2.2.1.1 hf.2.2.2.1.2 hf.2.1.1 hf.2.1.2)
  have H4 := Lib.hid (within_any f.mtu 68 1024)
  have hb0 : Below w.heap.size w (w.alloc (fo f)) := (Below.refl _ w).alloc (Nat.le_refl _) _
  obtain ⟨q0, q1, q2, q3, q4⟩ := blk5 w f
  rw [ok_F]
  generalize (decide (1 ≤ f.mac) && decide (f.mac ≤ 65534)) = x1 at *
  generalize uni f.addr = x2 at *
  generalize contZ f.na f.nb f.addr = x3 at *
  generalize (decide (68 ≤ f.mtu) && decide (f.mtu ≤ 1024)) = x4 at *
  cases x1
  · go_enter Try.func19, Try.ntmps19
    go_wp2_with fail
    refine (H1.out _).mono ?_
    rintro e w' ⟨rfl, rfl⟩
    go_wp2_with fail
    go_ret
    exact ⟨rfl, hb0⟩
  cases x2
  · go_enter Try.func19, Try.ntmps19
    go_wp2_with fail
    refine (H1.out _).mono ?_
    rintro e w' ⟨rfl, rfl⟩
    go_wp2_with fail
    refine (H2.out _).mono ?_
    rintro e w' ⟨rfl, rfl⟩
    go_wp2_with fail
    go_ret
    exact ⟨rfl, hb0⟩
  · go_enter Try.func19, Try.ntmps19
    go_wp2_with fail
    refine (H1.out _).mono ?_
    rintro e w' ⟨rfl, rfl⟩
    go_wp2_with fail
    refine (H2.out _).mono ?_
    rintro e w' ⟨rfl, rfl⟩
    go_wp2_with fail
    refine (H3 _).out.mono ?_
    rintro e w2 ⟨rfl, hb2⟩
    have q5 := (hb2.cell (World.block_lt_of_cell? _ _ q4)).trans q4
    have hb3 := hb0.trans (hb2.mono hb0.size)
    clear q0 q1 q2 q3 q4 hb0 hb2
    cases x3
    · go_wp2_with fail
      go_ret
      exact ⟨rfl, hb3⟩
    · go_wp2_with fail
      refine (H4.out _).mono ?_
      rintro e w' ⟨rfl, rfl⟩
      go_wp2_with fail
      go_ret
      exact ⟨by simp, hb3⟩

set_option maxRecDepth 20000 in
set_option maxHeartbeats 1600000 in
theorem rvif_any (f : Fc) (hf : InF f) (w : World) :
    Calls Try.prog 20 #[fv f] w fun e w' => e = .returned (.bool (okF f)) ∧ Below w.heap.size w w' := by
  have H2 := Lib.hid (ones_any f.addr)
  have Hv := fun w => Lib.hid (rvp_any f.na f.nb w hf.2.2.1.1 hf.2.2.1.2 hf.2.2.2.1.1 hf.2.2.2.1.2)
  have H3 := fun w => Lib.hid (rcont_any f.na f.nb f.addr w hf.2.2.1.1 hf.2.2.1.2 hf.2.2.2.1.1 hf.2.2.2.1.2 hf.2.1.1 hf.2.1.2)
  have hb0 : Below w.heap.size w (w.alloc (fo f)) := (Below.refl _ w).alloc (Nat.le_refl _) _
  obtain ⟨q0, q1, q2, q3, q4⟩ := blk5 w f
  have hvc : vpZ f.na f.nb = false → contZ f.na f.nb f.addr = false := fun h => by unfold contZ; rw [h]; rfl
  rw [ok_F]
  generalize uni f.addr = x2 at *
  generalize vpZ f.na f.nb = xv at *
  generalize contZ f.na f.nb f.addr = x3 at *
  by_cases h1 : 1 ≤ f.mac ∧ f.mac ≤ 65534
  · have d1 : decide (1 ≤ f.mac) = true := decide_eq_true h1.1
    have d2 : decide (f.mac ≤ 65534) = true := decide_eq_true h1.2
    rw [d1, d2]
    cases x2
    · go_enter Try.func20, Try.ntmps20
      go_wp2_with fail
      refine (H2.out _).mono ?_
      rintro e w' ⟨rfl, rfl⟩
      go_wp2_with fail
      go_ret
      exact ⟨rfl, hb0⟩
    · go_enter Try.func20, Try.ntmps20
      go_wp2_with fail
      refine (H2.out _).mono ?_
      rintro e w' ⟨rfl, rfl⟩
      go_wp2_with fail
      refine (Hv _).out.mono ?_
      rintro e w2 ⟨rfl, hb2⟩
      have p1 := (hb2.cell (World.block_lt_of_cell? _ _ q1)).trans q1
      have p2 := (hb2.cell (World.block_lt_of_cell? _ _ q2)).trans q2
      have p3 := (hb2.cell (World.block_lt_of_cell? _ _ q3)).trans q3
      have p4 := (hb2.cell (World.block_lt_of_cell? _ _ q4)).trans q4
      have hb3 := hb0.trans (hb2.mono hb0.size)
      clear q0 q1 q2 q3 q4 hb0 hb2
      cases xv
      · have e3 := hvc rfl
        subst e3
        go_wp2_with fail
        go_ret
        exact ⟨rfl, hb3⟩
      · go_wp2_with fail
        refine (H3 _).out.mono ?_
        rintro e w4 ⟨rfl, hb4⟩
        have p5 := (hb4.cell (World.block_lt_of_cell? _ _ p4)).trans p4
        have hb5 := hb3.trans (hb4.mono hb3.size)
        clear p1 p2 p3 p4 hb3 hb4
        cases x3
        · go_wp2_with fail
          go_ret
          exact ⟨rfl, hb5⟩
        · by_cases h4 : 68 ≤ f.mtu
          · go_wp2_with fail
            go_ret
            exact ⟨ret_bool (by simp [h4]), hb5⟩
          · have d4 : decide (68 ≤ f.mtu) = false := decide_eq_false h4
            go_wp2_with fail
            go_ret
            exact ⟨ret_bool (by rw [d4]; rfl), hb5⟩
  · have d1 : (decide (1 ≤ f.mac) && decide (f.mac ≤ 65534)) = false := by simp only [Bool.and_eq_false_iff, decide_eq_false_iff_not]; omega
    rw [d1]
    by_cases h2 : 1 ≤ f.mac
    · have d2 : decide (f.mac ≤ 65534) = false := decide_eq_false (by omega)
      clear d1
      go_enter Try.func20, Try.ntmps20
      go_wp2_with fail
      go_ret
      exact ⟨rfl, hb0⟩
    · have d2 : decide (1 ≤ f.mac) = false := decide_eq_false h2
      clear d1
      go_enter Try.func20, Try.ntmps20
      go_wp2_with fail
      go_ret
      exact ⟨rfl, hb0⟩
end Go.Proofs.Ytgfcpimklmgnbaa

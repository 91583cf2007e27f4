/- The walk of ARPDefendsAddress. -/
import Derived.Test.YtpkfjlbjahghgaaAtSane
namespace Go.Proofs.Ytpkfjlbjahghgaa
open Go.RowKit Go.Maps
set_option linter.unusedVariables false
attribute [local go_sem] Oper.semAt_some

/-- a slice of integers, as the walk reads it -/
def IntsIn (W : World) (lv : Value) (zs : List Int) : Prop := (lv = .slice none 0 0 ∧ zs = []) ∨ ∃ (a : Addr) (cap : Nat), lv = .slice (some a) zs.length cap ∧ ∀ (i : Nat) (h : i < zs.length), W.cell? (a.add i) = some (.int .i64 zs[i])
theorem tdiv_bd (z k : Int) (h1 : -9223372036854775808 ≤ z) (h2 : z ≤ 9223372036854775807) (hk : 1 ≤ k) : -9223372036854775808 ≤ z.tdiv k ∧ z.tdiv k ≤ 9223372036854775807 := by
  by_cases h : 0 ≤ z
  · rw [Int.tdiv_eq_ediv_of_nonneg h]
    have a1 := Int.ediv_nonneg h (by omega : 0 ≤ k)
    have a2 : z / k ≤ z := Int.ediv_le_self _ h
    omega
  · have e : z.tdiv k = -((-z).tdiv k) := by rw [Int.neg_tdiv]; omega
    rw [e, Int.tdiv_eq_ediv_of_nonneg (by omega)]
    have a1 := Int.ediv_nonneg (by omega : 0 ≤ -z) (by omega : 0 ≤ k)
    have a2 : -z / k ≤ -z := Int.ediv_le_self _ (by omega)
    omega
theorem ents_nil {R : List PE} (h : R.map (·.x) = []) : R = [] := by simpa using h

/-- what holds at the head of the loop -/
def DefI (W0 wr : World) (T mb : Nat) (n : Nat) (last now i : Value) : Prop :=
  ∃ (k : Nat) (N la : Int) (said : Bool) (when : Int), k ≤ 30 ∧ k ≤ n ∧ i = .int .i64 k ∧ now = .int .i64 N ∧ last = .int .i64 la ∧ 0 ≤ N ∧ N ≤ 7 * k ∧ St W0 wr T mb 10 5 said when [] [] ∧
    ((said = true ∧ when = la ∧ 0 ≤ la ∧ la ≤ N) ∨ (said = false ∧ when = 0 ∧ la = -100))

set_option maxRecDepth 100000 in
set_option maxHeartbeats 8000000 in
theorem walk_ARPDefendsAddress (lv : Value) (zs : List Int) (mc : Int) (W : World) (hl : IntsIn W lv zs) (hz : ∀ z ∈ zs, -9223372036854775808 ≤ z ∧ z ≤ 9223372036854775807) (hn : zs.length ≤ maxLen) (hm1 : -9223372036854775808 ≤ mc) (hm2 : mc ≤ 9223372036854775807) :
    Calls Try.prog 10 #[lv, .int .i64 mc] W fun e W' => e = .returned (.bool true) ∧ Below W.heap.size W W' := by
  unfold maxLen at hn
  obtain ⟨n, hnn⟩ : ∃ n, zs.length = n := ⟨_, rfl⟩
  obtain ⟨p, cap, hlv⟩ : ∃ p cap, lv = .slice p n cap := by
    rcases hl with ⟨h1, h2⟩ | ⟨a, cap, h1, _⟩
    · exact ⟨none, 0, by rw [h1, ← hnn, h2]; rfl⟩
    · exact ⟨some a, cap, by rw [h1, hnn]⟩
  have hcell : ∀ (i : Nat) (h : i < zs.length), ∃ a, p = some a ∧ W.cell? (a.add i) = some (.int .i64 zs[i]) := by
    intro i h
    rcases hl with ⟨h1, h2⟩ | ⟨a, cap', h1, h3⟩
    · rw [h2] at h; simp at h
    · rw [h1] at hlv
      simp only [Value.slice.injEq] at hlv
      exact ⟨a, hlv.1.symm, h3 i h⟩
  rw [hlv]
  rw [hnn] at hn
  have HC := Lib.hid hcell
  have HZ := Lib.hid hz
  have HN := Lib.hid hnn
  clear hl hcell hz hlv hnn
  obtain ⟨q1, q2⟩ := pickZ_bd mc 3 (by decide)
  go_enter Try.func10, Try.ntmps10
  go_wp2_with fail
  refine (sanity_any _).mono ?_
  rintro e w1 ⟨rfl, hb1⟩
  go_wp2_with fail
  refine (new_ok 10 5 _ (by decide) (by decide)).mono ?_
  rintro e w2 ⟨rfl, hb2, ht2⟩
  have S2 := Lib.hid (St.init hb2 ht2)
  have HB1 := Lib.hid hb1
  clear hb2 ht2 hb1
  obtain ⟨T, hTT⟩ : ∃ T, w1.heap.size + 1 = T := ⟨_, rfl⟩
  obtain ⟨mb, hMB⟩ : ∃ m, w1.heap.size = m := ⟨_, rfl⟩
  rw [hTT]
  rw [hTT, show St w1 w2 T w1.heap.size 10 5 false 0 [] [] = St w1 w2 T mb 10 5 false 0 [] [] by rw [hMB]] at S2
  clear hTT hMB
  go_wp2_with fail
  go_loopw [8, 9, 10] (fun last now i wr => DefI w1 wr T mb n last now i) (fun _ _ i _ => n - (intOf i).toNat)
  case atStart => exact ⟨0, 0, -100, false, 0, by omega, by omega, rfl, rfl, rfl, by omega, by omega, S2.out, .inr ⟨rfl, rfl, rfl⟩⟩
  case round =>
    obtain ⟨k, N, la, said, when, hk30, hkn, rfl, rfl, rfl, hN0, hN1, hS, hq⟩ := hrel
    have S3 := Lib.hid hS
    clear hS S2
    by_cases h : k < n ∧ k < 30
    · obtain ⟨h1, h2⟩ := h
      obtain ⟨a, rfl, hc⟩ := HC.out k (by rw [HN.out]; exact h1)
      obtain ⟨z, hz⟩ : ∃ z, zs[k]'(by rw [HN.out]; exact h1) = z := ⟨_, rfl⟩
      have hzb := HZ.out z (by rw [← hz]; exact List.getElem_mem _)
      rw [hz] at hc
      have hcl := cell_lt hc
      have hcr : wr.cell? (a.add k) = some (.int .i64 z) := by
        have hB := S3.out.below
        have h5 := HB1.out.size
        rw [hB.cell (p := a.add k) (by omega), HB1.out.cell (p := a.add k) hcl]
        exact hc
      clear hc hz hcl
      obtain ⟨zb1, zb2⟩ := hzb
      obtain ⟨pb1, pb2⟩ := pickZ_bd z 8 (by decide)
      obtain ⟨tb1, tb2⟩ := tdiv_bd z 8 zb1 zb2 (by decide)
      obtain ⟨mb1, mb2⟩ := pickZ_bd (z.tdiv 8) 9 (by decide)
      go_wp2_with fail
      refine (pick_any z 8 _ zb1 zb2 (by decide) (by decide)).mono ?_
      rintro e w3 ⟨rfl, rfl⟩
      generalize pickZ z 8 = dt at *
      go_wp2_with fail
      refine (pick_any (z.tdiv 8) 9 _ tb1 tb2 (by decide) (by decide)).mono ?_
      rintro e w3 ⟨rfl, rfl⟩
      generalize pickZ (z.tdiv 8) 9 = mm at *
      go_wp2_with fail
      refine (pick_any mc 3 _ hm1 hm2 (by decide) (by decide)).mono ?_
      rintro e w3 ⟨rfl, rfl⟩
      generalize pickZ mc 3 = dx at *
      go_wp2_with fail
      have hok : okA 1 10 (1 + mm) (10 + dx) 0 := by unfold okA okOne okMac; omega
      have hw1 : -4611686018427387904 ≤ when ∧ when ≤ 4611686018427387904 := by omega
      have hN2 : -4611686018427387904 ≤ N + dt ∧ N + dt ≤ 4611686018427387904 := by omega
      by_cases c1 : quiet 5 said when (N + dt) (1 + mm) = true
      · have c2 : ((1 + mm : Int) != 5) = false ∨ (((1 + mm : Int) != 5) = true ∧ decide (10 ≤ N + dt - la) = false) := by
          unfold quiet at c1
          by_cases c3 : (1 + mm : Int) = 5
          · left; simpa using c3
          · right
            refine ⟨by simpa using c3, ?_⟩
            simp only [c3, decide_false, Bool.false_or, Bool.and_eq_true, decide_eq_true_eq] at c1
            rcases hq with ⟨e1, e2, e3, e4⟩ | ⟨e1, e2, e3⟩
            · exact decide_eq_false (by omega)
            · rw [e1] at c1; simp at c1
        refine (recv_quiet S3.out.tab (N + dt) 1 (1 + mm) (10 + dx) 0 hok c1 hw1.1 hw1.2 hN2.1 hN2.2).mono ?_
        rintro e w4 ⟨rfl, hb4⟩
        have S4 := Lib.hid (S3.out.stay hb4).1
        clear hb4 S3 hcr HC
        rcases c2 with c2 | ⟨c2, c3⟩
        · go_wp2
          go_roundw
          case rel => exact ⟨k + 1, N + dt, la, said, when, by omega, by omega, by go_num, rfl, rfl, by omega, by omega, S4.out, hq.imp (fun ⟨e1, e2, e3, e4⟩ => ⟨e1, e2, e3, by omega⟩) id⟩
          case measure => simp [intOf]; omega
        · go_wp2
          go_roundw
          case rel => exact ⟨k + 1, N + dt, la, said, when, by omega, by omega, by go_num, rfl, rfl, by omega, by omega, S4.out, hq.imp (fun ⟨e1, e2, e3, e4⟩ => ⟨e1, e2, e3, by omega⟩) id⟩
          case measure => simp [intOf]; omega
      · have c1' : quiet 5 said when (N + dt) (1 + mm) = false := by simpa using c1
        have c2 : ((1 + mm : Int) != 5) = true ∧ decide (10 ≤ N + dt - la) = true := by
          unfold quiet at c1'
          simp only [Bool.or_eq_false_iff, decide_eq_false_iff_not, Bool.and_eq_false_iff] at c1'
          refine ⟨by simpa using c1'.1, decide_eq_true ?_⟩
          rcases hq with ⟨e1, e2, e3, e4⟩ | ⟨e1, e2, e3⟩
          · have := c1'.2; rw [e1] at this; simp at this; omega
          · omega
        obtain ⟨c2, c3⟩ := c2
        refine (recv_loud S3.out.tab (N + dt) 1 (1 + mm) (10 + dx) 0 hok c1' hw1.1 hw1.2 hN2.1 hN2.2).mono ?_
        rintro e w4 ⟨v, rfl, ha, ht⟩
        obtain ⟨R4, S4', -, -⟩ := S3.out.step ht
        have hR4 := ents_nil S4'.ents
        subst hR4
        have S4 := Lib.hid S4'
        clear S4' ht S3 hcr HC c1 c1'
        rcases ha with ⟨-, h0⟩ | ⟨b, o, c, rfl, hx⟩
        · cases h0
        have hx0 := hx 0 (by decide)
        simp only [List.getElem_cons_zero, Nat.zero_mul, Nat.add_zero] at hx0
        obtain ⟨y0, y1, y2, y3, y4⟩ := hx0
        simp only [List.length_cons, List.length_nil, Nat.zero_add]
        clear hx
        go_wp2
        go_roundw
        case rel => exact ⟨k + 1, N + dt, N + dt, true, N + dt, by omega, by omega, by go_num, rfl, rfl, by omega, by omega, S4.out, .inl ⟨rfl, rfl, by omega, by omega⟩⟩
        case measure => simp [intOf]; omega
    · have S4 := S3.out.below
      have hB := HB1.out.trans (S4.mono HB1.out.size)
      clear S3 HC
      by_cases h1 : k < n
      · obtain rfl : k = 30 := by omega
        go_wp2
        go_ret
        exact ⟨rfl, hB⟩
      · obtain rfl : k = n := by omega
        go_wp2
        go_ret
        exact ⟨rfl, hB⟩
end Go.Proofs.Ytpkfjlbjahghgaa

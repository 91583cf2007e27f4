/- Contract of the reference's SameHeld. -/
import Derived.Test.YtpkfjlbjahghgaaArSame
namespace Go.Proofs.Ytpkfjlbjahghgaa
open Go.RowKit
set_option linter.unusedVariables false
attribute [local go_sem] Oper.semAt_some

theorem HpsAt.slice {w : World} {v : Value} {l : List Hp} (h : HpsAt w v l) : ∃ p c, v = .slice p l.length c := by
  rcases h with ⟨rfl, rfl⟩ | ⟨b, o, c, rfl, _⟩
  · exact ⟨_, _, rfl⟩
  · exact ⟨_, _, rfl⟩

set_option maxHeartbeats 1600000 in
theorem rsameH_len (v u : Value) (l m : List Hp) (w : World) (h1 : HpsAt w v l) (h2 : HpsAt w u m) (hn : l.length ≠ m.length) :
    Calls Try.prog 30 #[v, u] w fun e w' => e = .returned (.bool false) ∧ w = w' := by
  obtain ⟨p, c, rfl⟩ := h1.slice
  obtain ⟨q, d, rfl⟩ := h2.slice
  obtain ⟨i, hi⟩ : ∃ i, l.length = i := ⟨_, rfl⟩
  obtain ⟨j, hj⟩ : ∃ j, m.length = j := ⟨_, rfl⟩
  rw [hi, hj] at hn
  rw [hi, hj]
  go_enter Try.func30, Try.ntmps30
  go_wp2
  go_ret
  exact ⟨rfl, rfl⟩

set_option maxHeartbeats 1600000 in
theorem rsameH_eq (v u : Value) (l m : List Hp) (w : World) (h1 : HpsAt w v l) (h2 : HpsAt w u m) (hn : l.length = m.length) (hs : l.length ≤ 100000) :
    Calls Try.prog 30 #[v, u] w fun e w' => e = .returned (.bool (decide (l = m))) ∧ Below w.heap.size w w' := by
  rcases h1 with ⟨rfl, rfl⟩ | ⟨b, o, c, rfl, hx⟩
  · obtain rfl : m = [] := List.eq_nil_of_length_eq_zero hn.symm
    obtain ⟨q, d, rfl⟩ := h2.slice
    go_enter Try.func30, Try.ntmps30
    go_wp2_with fail
    go_loop [5] (fun i => i = .int .i64 0) (fun _ => 0)
    case atStart => rfl
    case round =>
      subst hrel
      go_wp2
      go_ret
      exact ⟨rfl, Below.refl _ _⟩
  · rcases h2 with ⟨rfl, rfl⟩ | ⟨b2, o2, c2, rfl, hy⟩
    · have : l = [] := List.eq_nil_of_length_eq_zero hn
      subst this
      go_enter Try.func30, Try.ntmps30
      go_wp2_with fail
      go_loop [5] (fun i => i = .int .i64 0) (fun _ => 0)
      case atStart => rfl
      case round =>
        subst hrel
        go_wp2
        go_ret
        exact ⟨rfl, Below.refl _ _⟩
    · obtain ⟨n, hnn⟩ : ∃ n, l.length = n := ⟨_, rfl⟩
      obtain ⟨D, hD⟩ : ∃ D, decide (l = m) = D := ⟨_, rfl⟩
      rw [hD, ← hn, hnn]
      rw [hnn] at hn hs
      have HD := Lib.hid hD
      clear hD
      go_enter Try.func30, Try.ntmps30
      go_wp2_with fail
      go_loopw [5] (fun i wr => ∃ (k : Nat), k ≤ n ∧ i = .int .i64 k ∧ Below w.heap.size w wr ∧ Hid (l.take k = m.take k)) (fun i _ => n - (intOf i).toNat)
      case atStart => exact ⟨0, by omega, rfl, Below.refl _ _, Lib.hid (by simp)⟩
      case round =>
        obtain ⟨k, hk, rfl, hb, Hk⟩ := hrel
        by_cases h : k < n
        · have hX := hx k (by omega)
          have hY := hy k (by omega)
          obtain ⟨x, hxx⟩ : ∃ x, l[k]'(by omega) = x := ⟨_, rfl⟩
          obtain ⟨y, hyy⟩ : ∃ y, m[k]'(by omega) = y := ⟨_, rfl⟩
          rw [hxx] at hX
          rw [hyy] at hY
          have a0 := (hb.cell (cell_lt hX.t)).trans hX.t
          have a1 := (hb.cell (cell_lt hX.m)).trans hX.m
          have a2 := (hb.cell (cell_lt hX.s)).trans hX.s
          have b0 := (hb.cell (cell_lt hY.t)).trans hY.t
          have b1 := (hb.cell (cell_lt hY.m)).trans hY.m
          have b2 := (hb.cell (cell_lt hY.s)).trans hY.s
          clear hX hY
          have hd1 : l.take (k + 1) = l.take k ++ [x] := by rw [← hxx]; exact List.take_succ_eq_append_getElem (by omega)
          have hd2 : m.take (k + 1) = m.take k ++ [y] := by rw [← hyy]; exact List.take_succ_eq_append_getElem (by omega)
          by_cases hxy : x = y
          · have HN := Lib.hid (show l.take (k + 1) = m.take (k + 1) by rw [hd1, hd2, Hk.out, hxy])
            subst hxy
            clear hd1 hd2 hxx hyy Hk
            go_wp2
            go_region
            go_wp2
            exact ⟨⟨k + 1, by omega, by go_num, hb.drew, HN⟩, by simp [intOf]; omega⟩
          · have hz : D = false := by
              rw [← HD.out]
              refine decide_eq_false fun he => hxy ?_
              subst he
              rw [← hxx, ← hyy]
            have hc : x.t ≠ y.t ∨ (x.t = y.t ∧ x.m ≠ y.m) ∨ (x.t = y.t ∧ x.m = y.m ∧ (x.s.toList == y.s.toList) = false ∧ x.s ≠ y.s) := by
              by_cases e0 : x.t = y.t
              · by_cases e1 : x.m = y.m
                · have hne : x.s ≠ y.s := fun e2 => hxy (by cases x; cases y; simp_all)
                  have hne2 : ¬ x.s.toList = y.s.toList := fun h => hne (ba_ext (by rw [← Lib.toList_data, ← Lib.toList_data, h]))
                  exact .inr (.inr ⟨e0, e1, by simpa using hne2, hne⟩)
                · exact .inr (.inl ⟨e0, e1⟩)
              · exact .inl e0
            subst hz
            clear hd1 hd2 hxx hyy Hk hxy HD
            rcases hc with e | ⟨e0, e⟩ | ⟨e0, e1, e, e2⟩
            all_goals
              go_wp2
              go_region
              go_wp2
              go_ret
              exact ⟨rfl, hb.drew⟩
        · obtain rfl : k = n := by omega
          have hE := Hk.out
          rw [List.take_of_length_le (by omega), List.take_of_length_le (by omega)] at hE
          have hz : D = true := by rw [← HD.out]; exact decide_eq_true hE
          subst hz
          clear hE Hk
          go_wp2
          go_ret
          exact ⟨rfl, hb⟩

theorem rsameH_any (v u : Value) (l m : List Hp) (w : World) (h1 : HpsAt w v l) (h2 : HpsAt w u m) (hs : l.length ≤ 100000) :
    Calls Try.prog 30 #[v, u] w fun e w' => e = .returned (.bool (decide (l = m))) ∧ Below w.heap.size w w' := by
  by_cases hn : l.length = m.length
  · exact rsameH_eq v u l m w h1 h2 hn hs
  · rw [decide_eq_false (fun h => hn (by rw [h]))]
    exact (rsameH_len v u l m w h1 h2 hn).mono fun _ _ ⟨h3, h4⟩ => ⟨h3, by rw [← h4]; exact Below.refl _ _⟩
end Go.Proofs.Ytpkfjlbjahghgaa

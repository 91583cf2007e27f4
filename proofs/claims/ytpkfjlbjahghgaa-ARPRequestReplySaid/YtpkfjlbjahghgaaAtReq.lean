/- Contracts of request, release, New; and Send to a new address while there is room. -/
import Derived.Test.YtpkfjlbjahghgaaAtSend
import Derived.Test.YtpkfjlbjahghgaaArOut
import Derived.BigRegion
namespace Go.Proofs.Ytpkfjlbjahghgaa
open Go.RowKit Go.Maps
set_option linter.unusedVariables false
attribute [local go_sem] Oper.semAt_some

set_option maxRecDepth 20000 in
set_option maxHeartbeats 1600000 in
theorem request_any (T : Nat) (own mac a : Int) (w : World) (hT : T < w.heap.size) (x0 : w.cell? ⟨T, 0, none⟩ = some (.int .i64 own)) (x1 : w.cell? ⟨T, 1, none⟩ = some (.int .i64 mac)) :
    Calls Try.prog 48 #[.pointer (some ⟨T, 0, none⟩), .int .i64 a] w fun e w' => e = .returned (av 1 own mac a 0) ∧ Below w.heap.size w w' := by
  have y0 := cell_alloc x0 (ao 0 0 0 0 0)
  have y1 := cell_alloc x1 (ao 0 0 0 0 0)
  have hZ := blk_new w (ao 0 0 0 0 0)
  have z0 := blk_cell (k := 0) hZ rfl
  have z1 := blk_cell (k := 1) hZ rfl
  have z2 := blk_cell (k := 2) hZ rfl
  have z3 := blk_cell (k := 3) hZ rfl
  have z4 := blk_cell (k := 4) hZ rfl
  go_enter Try.func48, Try.ntmps48
  go_wp2
  go_region
  go_wp2
  have q : (w.alloc (ao 1 own mac a 0)).drew.heap[w.heap.size]? = some (ao 1 own mac a 0) := blk_new w _
  have g0 := (blk_cell (k := 0) q rfl).1
  have g1 := (blk_cell (k := 1) q rfl).1
  have g2 := (blk_cell (k := 2) q rfl).1
  have g3 := (blk_cell (k := 3) q rfl).1
  have g4 := (blk_cell (k := 4) q rfl).1
  simp only [List.getElem_toArray, List.getElem_cons_zero, List.getElem_cons_succ] at g0 g1 g2 g3 g4
  refine bodyPost_ret (v := av 1 own mac a 0) (by simp [results, Try.results48, go_sem, g0, g1, g2, g3, g4]; try rfl) rfl ?_
  exact ⟨rfl, ((Below.refl _ w).alloc (Nat.le_refl _) _).drew⟩

theorem new_bad (own mac : Int) (w : World) (h : ¬ (okOne own ∧ okMac mac)) :
    Calls Try.prog 21 #[.int .i64 own, .int .i64 mac] w fun e w' => e = .returned (.tuple #[.pointer none, .int .i64 50]) ∧ w = w' := by
  have H1 := uni_any own
  have H2 := unim_any mac
  by_cases h1 : okOne own
  · have h2 : ¬ okMac mac := fun h2 => h ⟨h1, h2⟩
    rw [decide_eq_true h1] at H1
    rw [decide_eq_false h2] at H2
    go_enter Try.func21, Try.ntmps21
    go_wp2_with (first
      | (go_at_call 41; refine (H1 _).mono ?_; rintro e w' ⟨rfl, rfl⟩; clear H1)
      | (go_at_call 40; refine (H2 _).mono ?_; rintro e w' ⟨rfl, rfl⟩; clear H2))
    go_ret2
    exact ⟨rfl, rfl⟩
  · rw [decide_eq_false h1] at H1
    go_enter Try.func21, Try.ntmps21
    go_wp2_with (first
      | (go_at_call 41; refine (H1 _).mono ?_; rintro e w' ⟨rfl, rfl⟩; clear H1))
    go_ret2
    exact ⟨rfl, rfl⟩

set_option maxHeartbeats 1600000 in
theorem new_ok (own mac : Int) (w : World) (h1 : okOne own) (h2 : okMac mac) :
    Calls Try.prog 21 #[.int .i64 own, .int .i64 mac] w fun e w' => e = .returned (.tuple #[.pointer (some ⟨w.heap.size + 1, 0, none⟩), .int .i64 0]) ∧ Below w.heap.size w w' ∧ TabP w' w.heap.size (w.heap.size + 1) w.heap.size own mac false 0 [] := by
  have H1 := uni_any own
  have H2 := unim_any mac
  rw [decide_eq_true h1] at H1
  rw [decide_eq_true h2] at H2
  have hmm := @run_makeMap Try.prog
  go_enter Try.func21, Try.ntmps21
  go_wp2_with (first
    | (go_at_call 41; refine (H1 _).mono ?_; rintro e w' ⟨rfl, rfl⟩; clear H1)
    | (go_at_call 40; refine (H2 _).mono ?_; rintro e w' ⟨rfl, rfl⟩; clear H2))
  go_ret2
  refine ⟨rfl, ((Below.refl _ w).alloc (Nat.le_refl _) _).alloc (by simp) _, ⟨⟨by omega, Nat.le_refl _⟩, ?_, ?_, by simp, by simp [allB], by simp, by simp⟩⟩
  · have := blk_new (w.alloc (.map #[] 0)) (pto own mac w.heap.size false 0)
    simpa using this
  · exact (World.ownsMap_made w Try.prog 3 raw).alloc _

set_option maxRecDepth 20000 in
set_option maxHeartbeats 1600000 in
theorem release_any {w : World} {base b : Nat} {x : En} {hv : Value} (a m : Int) (hE : w.heap[b]? = some (inco x hv)) (hown : w.ownsRow base 9 1 hv x.held.length (strs x.held)) (hl : x.held.length ≤ 1000) :
    Calls Try.prog 54 #[.pointer (some ⟨b, 0, none⟩), .int .i64 a, .int .i64 m] w fun e w' => (∃ v, e = .returned v ∧ w'.ownsRow w.heap.size 65 3 v x.held.length (flatH (x.held.map fun s => ⟨a, m, s⟩))) ∧ Below w.heap.size w w' := by
  obtain ⟨i0, hi, hz0, hz1, hz2⟩ := info_parts infoHp
  obtain ⟨n, hnn⟩ : ∃ n, x.held.length = n := ⟨_, rfl⟩
  rw [hnn] at hown hl
  rw [hnn]
  obtain ⟨p, c, rfl, -⟩ := row_shape hown
  have hx0 := (blk_cell (k := 0) hE rfl).1
  simp only [List.getElem_toArray, List.getElem_cons_zero] at hx0
  have hcell : ∀ (j : Nat) (h : j < x.held.length), ∃ g, p = some ⟨g, 0, none⟩ ∧ w.cell? ⟨g, j, none⟩ = some (.string x.held[j]) := by
    intro j hj
    rcases hown.2 with ⟨e1, e2⟩ | ⟨g, cap, cur, e1, -⟩
    · omega
    · cases e1
      refine ⟨g, rfl, ?_⟩
      have e3 := hown.cellAt j (by omega)
      rw [e3]
      simp [strs, hj]
  have HE := Lib.hid hE
  have HC := Lib.hid hcell
  clear hE hcell hown
  go_enter Try.func54, Try.ntmps54
  go_wp2_with fail
  go_loopw [7, 15] (fun v i wr => ∃ k : Nat, k ≤ n ∧ i = .int .i64 k ∧ wr.ownsRow w.heap.size 65 3 v k (flatH ((x.held.take k).map fun s => ⟨a, m, s⟩)) ∧ Below w.heap.size w wr) (fun _ i _ => n - (intOf i).toNat)
  case atStart => exact ⟨0, by omega, rfl, World.ownsRow_nil _ _ _ _, Below.refl _ _⟩
  case round =>
    obtain ⟨k, hk, rfl, hown, hb⟩ := hrel
    by_cases h : k < n
    · obtain ⟨g, rfl, hc0⟩ := HC.out k (by omega)
      have hd : x.held.take (k + 1) = x.held.take k ++ [x.held[k]'(by omega)] := List.take_succ_eq_append_getElem (by omega)
      obtain ⟨y, hy⟩ : ∃ y, x.held[k]'(by omega) = y := ⟨_, rfl⟩
      rw [hy] at hc0 hd
      have hc1 := (hb.cell (cell_lt hc0)).trans hc0
      have HD := Lib.hid hd
      clear hc0 hy hd
      go_wp2_with (at_builtin; refine wpList_append_own _ rfl (.tmp 19) (.tmp 24) 51 rfl w.heap.size 65 i0 (.agg #[.int .i64 0, .int .i64 0, .string ⟨#[]⟩]) 3 32 Try.underlying51 hi hz0 hz1 hz2 rfl (by decide) u7 k _ rfl (by exact hown.alloc _) ⟨wr.heap.size, 0, none⟩ 1 1 [.int .i64 a, .int .i64 m, .string y] rfl rfl ?c1 ?c2 (by unfold maxLen; omega) (by omega) ?c5 ?_)
      case c1 =>
        intro j u hj
        exact World.news_of_block (blk_new wr _) j u hj
      case c2 => intro u hu; simp at hu; rcases hu with rfl | rfl | rfl <;> rfl
      case c5 => have := hb.size; simp; omega
      · intro v' w1 hown' hgrow _
        have hB' : Below w.heap.size w w1 := (hb.alloc hb.size (.cells #[.int .i64 a, .int .i64 m, .string y] 65)).grown hgrow (by have := hb.size; simp; omega) (fun j e => own_base hown e)
        have hN : w1.ownsRow w.heap.size 65 3 v' (k + 1) (flatH ((x.held.take (k + 1)).map fun s => ⟨a, m, s⟩)) := by
          rw [HD.out, List.map_append, List.map_cons, List.map_nil, flatH_snoc]
          simpa using hown'
        clear hown' hgrow hown hb
        go_wp2
        exact ⟨⟨k + 1, by omega, by go_num, hN, hB'⟩, by simp [intOf]; omega⟩
    · obtain rfl : k = n := by omega
      rw [List.take_of_length_le (by omega)] at hown
      go_wp2
      go_ret
      exact ⟨⟨_, rfl, hown⟩, hb⟩
end Go.Proofs.Ytpkfjlbjahghgaa

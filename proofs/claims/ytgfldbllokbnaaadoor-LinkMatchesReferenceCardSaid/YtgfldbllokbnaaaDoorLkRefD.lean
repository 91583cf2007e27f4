/- Contract of the reference's Decode. -/
import Derived.Test.YtgfldbllokbnaaaDoorLkRef
import Derived.Lib.Strings
namespace Go.Proofs.YtgfldbllokbnaaaDoor
open Go.RowKit
set_option linter.unusedVariables false
attribute [local go_sem] Oper.semAt_some

def rdZ (s : ByteArray) (k b : Int) : Int := rdV s k.toNat b.toNat
theorem rget_int (s : ByteArray) (k b : Int) (w : World) (hb1 : 1 ≤ b) (hb2 : b ≤ 4) (h0 : 0 ≤ k) (hk : k + b ≤ (s.size : Int)) (hs : s.size ≤ maxLen) :
    Calls Tryd.prog 29 #[.string s, .int .i64 k, .int .i64 b] w fun e w' => e = .returned (.int .i64 (rdZ s k b)) ∧ w = w' := by
  have := rget_any s k.toNat b.toNat w (by omega) (by omega) (by omega) hs
  rw [show ((k.toNat : Nat) : Int) = k by omega, show ((b.toNat : Nat) : Int) = b by omega] at this
  exact this

set_option maxRecDepth 100000 in
set_option maxHeartbeats 1600000 in
theorem rdec_lt (s : ByteArray) (w : World) (h : s.size < 11) :
    Calls Tryd.prog 14 #[.string s] w fun en w' => en = .returned (.tuple #[fv 0 0 0 ⟨#[]⟩, .int .i64 40]) ∧ Below w.heap.size w w' := by
  go_enter Tryd.func14, Tryd.ntmps14
  have h1 : (s.size : Int) < 11 := by omega
  go_wp2
  refine bodyPost_ret (v := .tuple #[fv 0 0 0 ⟨#[]⟩, .int .i64 40]) (by simp [results, Tryd.results14, go_sem]; try rfl) rfl ?_
  exact ⟨rfl, (Below.refl _ w).alloc (Nat.le_refl _) _⟩

set_option maxRecDepth 100000 in
set_option maxHeartbeats 1600000 in
theorem rdec_gt (s : ByteArray) (w : World) (h : 1035 < s.size) (hs : s.size ≤ maxLen) :
    Calls Tryd.prog 14 #[.string s] w fun en w' => en = .returned (.tuple #[fv 0 0 0 ⟨#[]⟩, .int .i64 40]) ∧ Below w.heap.size w w' := by
  go_enter Tryd.func14, Tryd.ntmps14
  unfold maxLen at hs
  have h1 : ¬ (s.size : Int) < 11 := by omega
  have h2 : (1035 : Int) < (s.size : Int) := by omega
  go_wp2
  refine bodyPost_ret (v := .tuple #[fv 0 0 0 ⟨#[]⟩, .int .i64 40]) (by simp [results, Tryd.results14, go_sem]; try rfl) rfl ?_
  exact ⟨rfl, (Below.refl _ w).alloc (Nat.le_refl _) _⟩

set_option maxRecDepth 100000 in
set_option maxHeartbeats 1600000 in
theorem rdec_inv (s : ByteArray) (w : World) (e : Nat) (he : (s.size : Int) - 4 = (e : Int)) (h7 : 7 ≤ e) (hu : e ≤ 1031) (hv : ¬ okF (rdV s 0 2) (rdV s 2 2) (rdV s 4 1) (e - 7)) :
    Calls Tryd.prog 14 #[.string s] w fun en w' => en = .returned (.tuple #[fv 0 0 0 ⟨#[]⟩, .int .i64 40]) ∧ Below w.heap.size w w' := by
  go_enter Tryd.func14, Tryd.ntmps14
  have h1 : ¬ (s.size : Int) < 11 := by omega
  have h2 : ¬ (1035 : Int) < (s.size : Int) := by omega
  have hi2 : (e : Int) ≤ (s.size : Int) := by omega
  have hi3 : (7 : Int) ≤ (e : Int) := by omega
  have hwe : IntKind.i64.wrap (e : Int) = (e : Int) := wraps_i64 _ (by omega) (by omega)
  have hw4 : IntKind.i64.wrap ((s.size : Int) - 4) = (e : Int) := by rw [he]; exact hwe
  have hsm : s.size ≤ maxLen := by unfold maxLen; omega
  go_wp2
  go_region_held3 (fun _ => True) (trivial) ((go_at_call 29; refine (rget_int s _ _ _ (by decide) (by decide) (by decide) (by omega) hsm).mono ?_; rintro e0 w' ⟨rfl, rfl⟩))
  all_goals
    have hN1 := (blk_alloc (blk_new w (fo 0 0 0 ⟨#[]⟩)) (fo (rdZ s 0 2) (rdZ s 2 2) (rdZ s 4 1) (s.extract 7 e)))
    have hF1 := blk_new (w.alloc (fo 0 0 0 ⟨#[]⟩)) (fo (rdZ s 0 2) (rdZ s 2 2) (rdZ s 4 1) (s.extract 7 e))
    rw [World.size_alloc] at hF1
    have hN2 : (((w.alloc (fo 0 0 0 ⟨#[]⟩)).alloc (fo (rdZ s 0 2) (rdZ s 2 2) (rdZ s 4 1) (s.extract 7 e))).drew).heap[w.heap.size]? = some (fo 0 0 0 ⟨#[]⟩) := hN1
    have hF2 : (((w.alloc (fo 0 0 0 ⟨#[]⟩)).alloc (fo (rdZ s 0 2) (rdZ s 2 2) (rdZ s 4 1) (s.extract 7 e))).drew).heap[w.heap.size + 1]? = some (fo (rdZ s 0 2) (rdZ s 2 2) (rdZ s 4 1) (s.extract 7 e)) := hF1
    have hB2 : Below w.heap.size w (((w.alloc (fo 0 0 0 ⟨#[]⟩)).alloc (fo (rdZ s 0 2) (rdZ s 2 2) (rdZ s 4 1) (s.extract 7 e))).drew) := (((Below.refl _ w).alloc (Nat.le_refl _) _).alloc (by simp) _).drew
    clear hN1 hF1
    revert hN2 hF2 hB2
    generalize ((w.alloc (.cells #[.int .i64 0, .int .i64 0, .int .i64 0, .string ⟨#[]⟩] 23)).alloc (.cells #[.int .i64 (rdZ s 0 2), .int .i64 (rdZ s 2 2), .int .i64 (rdZ s 4 1), .string (s.extract 7 e)] 23)).drew = W3
    intro hN2 hF2 hB2
    have hXs : (s.extract 7 e).size = e - 7 := by rw [ByteArray.size_extract]; omega
    have x0 := (blk_cell (k := 0) hF2 rfl).1
    have x1 := (blk_cell (k := 1) hF2 rfl).1
    have x2 := (blk_cell (k := 2) hF2 rfl).1
    have x3 := (blk_cell (k := 3) hF2 rfl).1
    simp only [List.getElem_toArray, List.getElem_cons_zero, List.getElem_cons_succ] at x0 x1 x2 x3
    go_wp2_with fail
    refine (refEncode_no _ _ _ _ _ (by rw [hXs]; exact hv)).mono ?_
    rintro e1 w4 ⟨rfl, hb4⟩
    have hB4 := hB2.trans (hb4.mono hB2.size)
    have hN4 := blk_below hN2 hb4 (blk_lt hN2)
    have hF4 := blk_below hF2 hb4 (blk_lt hF2)
    clear hb4 hN2 hF2 x0 x1 x2 x3
    have x0 := (blk_cell (k := 0) hF4 rfl).1
    have x1 := (blk_cell (k := 1) hF4 rfl).1
    have x2 := (blk_cell (k := 2) hF4 rfl).1
    have x3 := (blk_cell (k := 3) hF4 rfl).1
    simp only [List.getElem_toArray, List.getElem_cons_zero, List.getElem_cons_succ] at x0 x1 x2 x3
    have n0 := blk_cell (k := 0) hN4 rfl
    have n1 := blk_cell (k := 1) hN4 rfl
    have n2 := blk_cell (k := 2) hN4 rfl
    have n3 := blk_cell (k := 3) hN4 rfl
    simp only [List.getElem_toArray, List.getElem_cons_zero, List.getElem_cons_succ] at n0 n1 n2 n3
    go_wp2
    have q1 := set4_res hN4 0 0 0 ⟨#[]⟩
    have g0 := (blk_cell (k := 0) q1 rfl).1
    have g1 := (blk_cell (k := 1) q1 rfl).1
    have g2 := (blk_cell (k := 2) q1 rfl).1
    have g3 := (blk_cell (k := 3) q1 rfl).1
    simp only [List.getElem_toArray, List.getElem_cons_zero, List.getElem_cons_succ] at g0 g1 g2 g3
    have q2 : Below w.heap.size w (set4 w4 w.heap.size 0 0 0 ⟨#[]⟩) := (((hB4.setCell (p := ⟨w.heap.size, 0, none⟩) (Nat.le_refl _) _).setCell (p := ⟨w.heap.size, 1, none⟩) (Nat.le_refl _) _).setCell (p := ⟨w.heap.size, 2, none⟩) (Nat.le_refl _) _).setCell (p := ⟨w.heap.size, 3, none⟩) (Nat.le_refl _) _
    clear q1
    refine bodyPost_ret (v := .tuple #[fv 0 0 0 ⟨#[]⟩, .int .i64 40]) (by simp [results, Tryd.results14, go_sem, g0, g1, g2, g3]; try rfl) rfl ?_
    exact ⟨rfl, q2⟩

set_option maxRecDepth 100000 in
set_option maxHeartbeats 1600000 in
theorem rdec_ne (s : ByteArray) (w : World) (e : Nat) (he : (s.size : Int) - 4 = (e : Int)) (h7 : 7 ≤ e) (hu : e ≤ 1031) (hv : okF (rdV s 0 2) (rdV s 2 2) (rdV s 4 1) (e - 7)) (hne : ¬ encS (rdV s 0 2) (rdV s 2 2) (rdV s 4 1) (s.extract 7 e) = s) :
    Calls Tryd.prog 14 #[.string s] w fun en w' => en = .returned (.tuple #[fv 0 0 0 ⟨#[]⟩, .int .i64 40]) ∧ Below w.heap.size w w' := by
  go_enter Tryd.func14, Tryd.ntmps14
  have h1 : ¬ (s.size : Int) < 11 := by omega
  have h2 : ¬ (1035 : Int) < (s.size : Int) := by omega
  have hi2 : (e : Int) ≤ (s.size : Int) := by omega
  have hi3 : (7 : Int) ≤ (e : Int) := by omega
  have hwe : IntKind.i64.wrap (e : Int) = (e : Int) := wraps_i64 _ (by omega) (by omega)
  have hw4 : IntKind.i64.wrap ((s.size : Int) - 4) = (e : Int) := by rw [he]; exact hwe
  have hsm : s.size ≤ maxLen := by unfold maxLen; omega
  go_wp2
  go_region_held3 (fun _ => True) (trivial) ((go_at_call 29; refine (rget_int s _ _ _ (by decide) (by decide) (by decide) (by omega) hsm).mono ?_; rintro e0 w' ⟨rfl, rfl⟩))
  all_goals
    have hN1 := (blk_alloc (blk_new w (fo 0 0 0 ⟨#[]⟩)) (fo (rdZ s 0 2) (rdZ s 2 2) (rdZ s 4 1) (s.extract 7 e)))
    have hF1 := blk_new (w.alloc (fo 0 0 0 ⟨#[]⟩)) (fo (rdZ s 0 2) (rdZ s 2 2) (rdZ s 4 1) (s.extract 7 e))
    rw [World.size_alloc] at hF1
    have hN2 : (((w.alloc (fo 0 0 0 ⟨#[]⟩)).alloc (fo (rdZ s 0 2) (rdZ s 2 2) (rdZ s 4 1) (s.extract 7 e))).drew).heap[w.heap.size]? = some (fo 0 0 0 ⟨#[]⟩) := hN1
    have hF2 : (((w.alloc (fo 0 0 0 ⟨#[]⟩)).alloc (fo (rdZ s 0 2) (rdZ s 2 2) (rdZ s 4 1) (s.extract 7 e))).drew).heap[w.heap.size + 1]? = some (fo (rdZ s 0 2) (rdZ s 2 2) (rdZ s 4 1) (s.extract 7 e)) := hF1
    have hB2 : Below w.heap.size w (((w.alloc (fo 0 0 0 ⟨#[]⟩)).alloc (fo (rdZ s 0 2) (rdZ s 2 2) (rdZ s 4 1) (s.extract 7 e))).drew) := (((Below.refl _ w).alloc (Nat.le_refl _) _).alloc (by simp) _).drew
    clear hN1 hF1
    revert hN2 hF2 hB2
    generalize ((w.alloc (.cells #[.int .i64 0, .int .i64 0, .int .i64 0, .string ⟨#[]⟩] 23)).alloc (.cells #[.int .i64 (rdZ s 0 2), .int .i64 (rdZ s 2 2), .int .i64 (rdZ s 4 1), .string (s.extract 7 e)] 23)).drew = W3
    intro hN2 hF2 hB2
    have hXs : (s.extract 7 e).size = e - 7 := by rw [ByteArray.size_extract]; omega
    have x0 := (blk_cell (k := 0) hF2 rfl).1
    have x1 := (blk_cell (k := 1) hF2 rfl).1
    have x2 := (blk_cell (k := 2) hF2 rfl).1
    have x3 := (blk_cell (k := 3) hF2 rfl).1
    simp only [List.getElem_toArray, List.getElem_cons_zero, List.getElem_cons_succ] at x0 x1 x2 x3
    go_wp2_with fail
    refine (refEncode_yes _ _ _ _ _ (by rw [hXs]; exact hv)).mono ?_
    rintro e1 w4 ⟨rfl, hb4⟩
    have hB4 := hB2.trans (hb4.mono hB2.size)
    have hN4 := blk_below hN2 hb4 (blk_lt hN2)
    have hF4 := blk_below hF2 hb4 (blk_lt hF2)
    clear hb4 hN2 hF2 x0 x1 x2 x3
    have x0 := (blk_cell (k := 0) hF4 rfl).1
    have x1 := (blk_cell (k := 1) hF4 rfl).1
    have x2 := (blk_cell (k := 2) hF4 rfl).1
    have x3 := (blk_cell (k := 3) hF4 rfl).1
    simp only [List.getElem_toArray, List.getElem_cons_zero, List.getElem_cons_succ] at x0 x1 x2 x3
    have n0 := blk_cell (k := 0) hN4 rfl
    have n1 := blk_cell (k := 1) hN4 rfl
    have n2 := blk_cell (k := 2) hN4 rfl
    have n3 := blk_cell (k := 3) hN4 rfl
    simp only [List.getElem_toArray, List.getElem_cons_zero, List.getElem_cons_succ] at n0 n1 n2 n3
    have hne1 : ¬ encS (rdZ s 0 2) (rdZ s 2 2) (rdZ s 4 1) (s.extract 7 e) = s := hne
    have hne2 : ¬ (encS (rdZ s 0 2) (rdZ s 2 2) (rdZ s 4 1) (s.extract 7 e)).toList = s.toList := fun h => hne1 (ba_ext (by rw [← Lib.toList_data, ← Lib.toList_data, h]))
    have hne3 : ((encS (rdZ s 0 2) (rdZ s 2 2) (rdZ s 4 1) (s.extract 7 e)).toList == s.toList) = false := by simpa using hne2
    revert hne1 hne2 hne3
    generalize encS (rdZ s 0 2) (rdZ s 2 2) (rdZ s 4 1) (s.extract 7 e) = Z
    intro hne1 hne2 hne3
    go_wp2
    have q1 := set4_res hN4 0 0 0 ⟨#[]⟩
    have g0 := (blk_cell (k := 0) q1 rfl).1
    have g1 := (blk_cell (k := 1) q1 rfl).1
    have g2 := (blk_cell (k := 2) q1 rfl).1
    have g3 := (blk_cell (k := 3) q1 rfl).1
    simp only [List.getElem_toArray, List.getElem_cons_zero, List.getElem_cons_succ] at g0 g1 g2 g3
    have q2 : Below w.heap.size w (set4 w4 w.heap.size 0 0 0 ⟨#[]⟩) := (((hB4.setCell (p := ⟨w.heap.size, 0, none⟩) (Nat.le_refl _) _).setCell (p := ⟨w.heap.size, 1, none⟩) (Nat.le_refl _) _).setCell (p := ⟨w.heap.size, 2, none⟩) (Nat.le_refl _) _).setCell (p := ⟨w.heap.size, 3, none⟩) (Nat.le_refl _) _
    clear q1
    refine bodyPost_ret (v := .tuple #[fv 0 0 0 ⟨#[]⟩, .int .i64 40]) (by simp [results, Tryd.results14, go_sem, g0, g1, g2, g3]; try rfl) rfl ?_
    exact ⟨rfl, q2⟩

set_option maxRecDepth 100000 in
set_option maxHeartbeats 1600000 in
theorem rdec_eq (s : ByteArray) (w : World) (e : Nat) (he : (s.size : Int) - 4 = (e : Int)) (h7 : 7 ≤ e) (hu : e ≤ 1031) (hv : okF (rdV s 0 2) (rdV s 2 2) (rdV s 4 1) (e - 7)) (heq : encS (rdV s 0 2) (rdV s 2 2) (rdV s 4 1) (s.extract 7 e) = s) :
    Calls Tryd.prog 14 #[.string s] w fun en w' => en = .returned (.tuple #[fv (rdV s 0 2) (rdV s 2 2) (rdV s 4 1) (s.extract 7 e), .int .i64 0]) ∧ Below w.heap.size w w' := by
  go_enter Tryd.func14, Tryd.ntmps14
  have h1 : ¬ (s.size : Int) < 11 := by omega
  have h2 : ¬ (1035 : Int) < (s.size : Int) := by omega
  have hi2 : (e : Int) ≤ (s.size : Int) := by omega
  have hi3 : (7 : Int) ≤ (e : Int) := by omega
  have hwe : IntKind.i64.wrap (e : Int) = (e : Int) := wraps_i64 _ (by omega) (by omega)
  have hw4 : IntKind.i64.wrap ((s.size : Int) - 4) = (e : Int) := by rw [he]; exact hwe
  have hsm : s.size ≤ maxLen := by unfold maxLen; omega
  go_wp2
  go_region_held3 (fun _ => True) (trivial) ((go_at_call 29; refine (rget_int s _ _ _ (by decide) (by decide) (by decide) (by omega) hsm).mono ?_; rintro e0 w' ⟨rfl, rfl⟩))
  all_goals
    have hN1 := (blk_alloc (blk_new w (fo 0 0 0 ⟨#[]⟩)) (fo (rdZ s 0 2) (rdZ s 2 2) (rdZ s 4 1) (s.extract 7 e)))
    have hF1 := blk_new (w.alloc (fo 0 0 0 ⟨#[]⟩)) (fo (rdZ s 0 2) (rdZ s 2 2) (rdZ s 4 1) (s.extract 7 e))
    rw [World.size_alloc] at hF1
    have hN2 : (((w.alloc (fo 0 0 0 ⟨#[]⟩)).alloc (fo (rdZ s 0 2) (rdZ s 2 2) (rdZ s 4 1) (s.extract 7 e))).drew).heap[w.heap.size]? = some (fo 0 0 0 ⟨#[]⟩) := hN1
    have hF2 : (((w.alloc (fo 0 0 0 ⟨#[]⟩)).alloc (fo (rdZ s 0 2) (rdZ s 2 2) (rdZ s 4 1) (s.extract 7 e))).drew).heap[w.heap.size + 1]? = some (fo (rdZ s 0 2) (rdZ s 2 2) (rdZ s 4 1) (s.extract 7 e)) := hF1
    have hB2 : Below w.heap.size w (((w.alloc (fo 0 0 0 ⟨#[]⟩)).alloc (fo (rdZ s 0 2) (rdZ s 2 2) (rdZ s 4 1) (s.extract 7 e))).drew) := (((Below.refl _ w).alloc (Nat.le_refl _) _).alloc (by simp) _).drew
    clear hN1 hF1
    revert hN2 hF2 hB2
    generalize ((w.alloc (.cells #[.int .i64 0, .int .i64 0, .int .i64 0, .string ⟨#[]⟩] 23)).alloc (.cells #[.int .i64 (rdZ s 0 2), .int .i64 (rdZ s 2 2), .int .i64 (rdZ s 4 1), .string (s.extract 7 e)] 23)).drew = W3
    intro hN2 hF2 hB2
    have hXs : (s.extract 7 e).size = e - 7 := by rw [ByteArray.size_extract]; omega
    have x0 := (blk_cell (k := 0) hF2 rfl).1
    have x1 := (blk_cell (k := 1) hF2 rfl).1
    have x2 := (blk_cell (k := 2) hF2 rfl).1
    have x3 := (blk_cell (k := 3) hF2 rfl).1
    simp only [List.getElem_toArray, List.getElem_cons_zero, List.getElem_cons_succ] at x0 x1 x2 x3
    go_wp2_with fail
    refine (refEncode_yes _ _ _ _ _ (by rw [hXs]; exact hv)).mono ?_
    rintro e1 w4 ⟨rfl, hb4⟩
    have hB4 := hB2.trans (hb4.mono hB2.size)
    have hN4 := blk_below hN2 hb4 (blk_lt hN2)
    have hF4 := blk_below hF2 hb4 (blk_lt hF2)
    clear hb4 hN2 hF2 x0 x1 x2 x3
    have x0 := (blk_cell (k := 0) hF4 rfl).1
    have x1 := (blk_cell (k := 1) hF4 rfl).1
    have x2 := (blk_cell (k := 2) hF4 rfl).1
    have x3 := (blk_cell (k := 3) hF4 rfl).1
    simp only [List.getElem_toArray, List.getElem_cons_zero, List.getElem_cons_succ] at x0 x1 x2 x3
    have n0 := blk_cell (k := 0) hN4 rfl
    have n1 := blk_cell (k := 1) hN4 rfl
    have n2 := blk_cell (k := 2) hN4 rfl
    have n3 := blk_cell (k := 3) hN4 rfl
    simp only [List.getElem_toArray, List.getElem_cons_zero, List.getElem_cons_succ] at n0 n1 n2 n3
    have heq1 : encS (rdZ s 0 2) (rdZ s 2 2) (rdZ s 4 1) (s.extract 7 e) = s := heq
    rw [heq1]
    clear heq heq1
    have hne : w.heap.size ≠ w.heap.size + 1 := by omega
    go_wp2
    have q1 := set4_res hN4 (rdZ s 0 2) (rdZ s 2 2) (rdZ s 4 1) (s.extract 7 e)
    have g0 := (blk_cell (k := 0) q1 rfl).1
    have g1 := (blk_cell (k := 1) q1 rfl).1
    have g2 := (blk_cell (k := 2) q1 rfl).1
    have g3 := (blk_cell (k := 3) q1 rfl).1
    simp only [List.getElem_toArray, List.getElem_cons_zero, List.getElem_cons_succ] at g0 g1 g2 g3
    have q2 : Below w.heap.size w (set4 w4 w.heap.size (rdZ s 0 2) (rdZ s 2 2) (rdZ s 4 1) (s.extract 7 e)) := (((hB4.setCell (p := ⟨w.heap.size, 0, none⟩) (Nat.le_refl _) _).setCell (p := ⟨w.heap.size, 1, none⟩) (Nat.le_refl _) _).setCell (p := ⟨w.heap.size, 2, none⟩) (Nat.le_refl _) _).setCell (p := ⟨w.heap.size, 3, none⟩) (Nat.le_refl _) _
    clear q1
    refine bodyPost_ret (v := .tuple #[fv (rdZ s 0 2) (rdZ s 2 2) (rdZ s 4 1) (s.extract 7 e), .int .i64 0]) (by simp [results, Tryd.results14, go_sem, g0, g1, g2, g3]; try rfl) rfl ?_
    exact ⟨rfl, q2⟩

theorem refDecode_no (s : ByteArray) (w : World) (hs : s.size ≤ maxLen) (hd : ¬ decC s) :
    Calls Tryd.prog 14 #[.string s] w fun e w' => e = .returned (.tuple #[fv 0 0 0 ⟨#[]⟩, .int .i64 40]) ∧ Below w.heap.size w w' := by
  by_cases h1 : s.size < 11
  · exact rdec_lt s w h1
  by_cases h2 : 1035 < s.size
  · exact rdec_gt s w h2 hs
  obtain ⟨e, he⟩ : ∃ e : Nat, s.size = e + 4 := ⟨s.size - 4, by omega⟩
  have he' : (s.size : Int) - 4 = (e : Int) := by omega
  by_cases hv : okF (rdV s 0 2) (rdV s 2 2) (rdV s 4 1) (e - 7)
  · by_cases hq : encS (rdV s 0 2) (rdV s 2 2) (rdV s 4 1) (s.extract 7 e) = s
    · refine absurd ?_ hd
      have hX : (s.extract 7 e).size = e - 7 := by rw [ByteArray.size_extract]; omega
      have := dec_enc _ _ _ (s.extract 7 e) (by rw [hX]; exact hv)
      rwa [hq] at this
    · exact rdec_ne s w e he' (by omega) (by omega) hv hq
  · exact rdec_inv s w e he' (by omega) (by omega) hv

theorem refDecode_ok (s : ByteArray) (w : World) (hs : s.size ≤ maxLen) (hd : decC s) :
    Calls Tryd.prog 14 #[.string s] w fun e w' => e = .returned (.tuple #[fv (rdV s 0 2) (rdV s 2 2) (rdV s 4 1) (s.extract 7 (s.size - 4)), .int .i64 0]) ∧ Below w.heap.size w w' := by
  have hq := enc_dec s hd
  obtain ⟨h7, hl, hv, hc⟩ := hd
  have hb := rdV_bd s 5 2 (by omega)
  have hu := hv.2.2.2.2.2
  exact rdec_eq s w (s.size - 4) (by omega) (by omega) (by omega) (by rw [show s.size - 4 - 7 = s.size - 11 by omega]; exact hv) hq
end Go.Proofs.YtgfldbllokbnaaaDoor

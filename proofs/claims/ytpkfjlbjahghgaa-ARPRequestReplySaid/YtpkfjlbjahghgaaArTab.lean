/- The reference's table: its entries as a plain list, and how they lie in memory. -/
import Derived.Test.YtpkfjlbjahghgaaArMem
import Derived.WalkKit
import Derived.BigRegion
namespace Go.Proofs.Ytpkfjlbjahghgaa
open Go.RowKit
set_option linter.unusedVariables false
attribute [local go_sem] Oper.semAt_some

/-- an entry: address, resolved, MAC, told, sent, pending packets, tries, first, last -/
structure En where
  addr : Int
  known : Bool
  mac : Int
  told : Int
  sent : Int
  held : List ByteArray
  tries : Int
  first : Int
  last : Int

/-- the first index from k on whose entry has the address, or -1 -/
def findE (a : Int) : List En → Int → Int
  | [], _ => -1
  | x :: l, k => if x.addr = a then k else findE a l (k + 1)

abbrev to (own mac : Int) (l : Value) (said : Bool) (when : Int) : Obj := .cells #[.int .i64 own, .int .i64 mac, l, .bool said, .int .i64 when] 85

/-- the addresses of the entries at a row of entries -/
def AddrsAt (w : World) (g : Nat) (L : List En) : Prop := ∀ (i : Nat) (h : i < L.length), w.cell? ⟨g, i * 9, none⟩ = some (.int .i64 L[i].addr)

set_option maxHeartbeats 1600000 in
theorem rfind_any (B g cap : Nat) (own mac a when : Int) (said : Bool) (L : List En) (w : World) (hB : w.heap[B]? = some (to own mac (.slice (some ⟨g, 0, none⟩) L.length cap) said when)) (hA : AddrsAt w g L) (hn : L.length ≤ 1000) :
    Calls Try.prog 49 #[.pointer (some ⟨B, 0, none⟩), .int .i64 a] w fun e w' => e = .returned (.int .i64 (findE a L 0)) ∧ w = w' := by
  obtain ⟨n, hnn⟩ : ∃ n, L.length = n := ⟨_, rfl⟩
  obtain ⟨F, hF⟩ : ∃ F, findE a L 0 = F := ⟨_, rfl⟩
  rw [hF]
  have HF := Lib.hid hF
  clear hF
  have x2 := (blk_cell (k := 2) hB rfl).1
  simp only [List.getElem_toArray, List.getElem_cons_zero, List.getElem_cons_succ] at x2
  rw [hnn] at x2 hn
  go_enter Try.func49, Try.ntmps49
  go_wp2_with fail
  go_loop [5] (fun i => ∃ (k : Nat), k ≤ n ∧ i = .int .i64 k ∧ Hid (findE a (L.drop k) k = F)) (fun i => n - (intOf i).toNat)
  case atStart => exact ⟨0, by omega, rfl, HF⟩
  case round =>
    obtain ⟨k, hk, rfl, Hk⟩ := hrel
    by_cases h : k < n
    · have hc := hA k (by omega)
      obtain ⟨x, hx⟩ : ∃ x, L[k]'(by omega) = x := ⟨_, rfl⟩
      rw [hx] at hc
      have hd : L.drop k = x :: L.drop (k + 1) := by rw [← hx]; exact List.drop_eq_getElem_cons (by omega)
      have hE := Hk.out
      rw [hd, findE] at hE
      by_cases he : x.addr = a
      · rw [if_pos he] at hE
        clear hx hd
        subst hE
        go_wp2
        go_ret
        exact ⟨rfl, rfl⟩
      · rw [if_neg he] at hE
        have HE := Lib.hid hE
        clear hE hx hd
        go_wp2
        exact ⟨⟨k + 1, by omega, by go_num, HE⟩, by simp [intOf]; omega⟩
    · obtain rfl : k = n := by omega
      have hE := Hk.out
      rw [← hnn, List.drop_length] at hE
      have hz : F = -1 := hE.symm
      subst hz
      go_wp2
      go_ret
      exact ⟨rfl, rfl⟩

/-- a table without entries -/
theorem rfind_nil (B : Nat) (own mac a when : Int) (said : Bool) (w : World) (hB : w.heap[B]? = some (to own mac (.slice none 0 0) said when)) :
    Calls Try.prog 49 #[.pointer (some ⟨B, 0, none⟩), .int .i64 a] w fun e w' => e = .returned (.int .i64 (-1)) ∧ w = w' := by
  have x2 := (blk_cell (k := 2) hB rfl).1
  simp only [List.getElem_toArray, List.getElem_cons_zero, List.getElem_cons_succ] at x2
  go_enter Try.func49, Try.ntmps49
  go_wp2_with fail
  go_loop [5] (fun i => i = .int .i64 0) (fun _ => 0)
  case atStart => rfl
  case round =>
    subst hrel
    go_wp2
    go_ret
    exact ⟨rfl, rfl⟩

theorem rask_any (B : Nat) (own mac a when : Int) (l : Value) (said : Bool) (w : World) (hB : w.heap[B]? = some (to own mac l said when)) :
    Calls Try.prog 51 #[.pointer (some ⟨B, 0, none⟩), .int .i64 a] w fun e w' => e = .returned (av 1 own mac a 0) ∧ Below w.heap.size w w' := by
  have x0 := (blk_cell (k := 0) hB rfl).1
  have x1 := (blk_cell (k := 1) hB rfl).1
  simp only [List.getElem_toArray, List.getElem_cons_zero, List.getElem_cons_succ] at x0 x1
  have hN := blk_new w (ao 0 0 0 0 0)
  have hb0 := (Below.refl w.heap.size w).alloc (Nat.le_refl _) (ao 0 0 0 0 0)
  have y0 := cell_alloc x0 (ao 0 0 0 0 0)
  have y1 := cell_alloc x1 (ao 0 0 0 0 0)
  have n0 := blk_cell (k := 0) hN rfl
  have n1 := blk_cell (k := 1) hN rfl
  have n2 := blk_cell (k := 2) hN rfl
  have n3 := blk_cell (k := 3) hN rfl
  have n4 := blk_cell (k := 4) hN rfl
  simp only [List.getElem_toArray, List.getElem_cons_zero, List.getElem_cons_succ] at n0 n1 n2 n3 n4
  clear x0 x1
  go_enter Try.func51, Try.ntmps51
  go_wp2
  generalize (w.alloc (.cells #[.int .i64 0, .int .i64 0, .int .i64 0, .int .i64 0, .int .i64 0] 23)) = W at *
  go_region
  have q1 := set5_res hN 1 own mac a 0
  have g0 := (blk_cell (k := 0) q1 rfl).1
  have g1 := (blk_cell (k := 1) q1 rfl).1
  have g2 := (blk_cell (k := 2) q1 rfl).1
  have g3 := (blk_cell (k := 3) q1 rfl).1
  have g4 := (blk_cell (k := 4) q1 rfl).1
  simp only [List.getElem_toArray, List.getElem_cons_zero, List.getElem_cons_succ] at g0 g1 g2 g3 g4
  have q2 := (set5_below hb0 (Nat.le_refl _) 1 own mac a 0).drew
  clear q1
  go_wp2
  refine bodyPost_ret (v := av 1 own mac a 0) (by simp [results, Try.results51, go_sem, g0, g1, g2, g3, g4]; try rfl) rfl ?_
  exact ⟨rfl, q2⟩

theorem rnew_yes (own mac : Int) (w : World) (h1 : okOne own) (h2 : okMac mac) :
    Calls Try.prog 22 #[.int .i64 own, .int .i64 mac] w fun e w' => e = .returned (.tuple #[.pointer (some ⟨w.heap.size, 0, none⟩), .int .i64 0]) ∧ w' = w.alloc (to own mac (.slice none 0 0) false 0) := by
  have H1 := rones_any own
  have H2 := rlink_any mac
  rw [decide_eq_true h1] at H1
  rw [decide_eq_true h2] at H2
  go_enter Try.func22, Try.ntmps22
  go_wp2_with (first
    | (go_at_call 42; refine (H1 _).mono ?_; rintro e w' ⟨rfl, rfl⟩)
    | (go_at_call 43; refine (H2 _).mono ?_; rintro e w' ⟨rfl, rfl⟩))
  go_ret2
  exact ⟨rfl, rfl⟩

theorem rnew_no (own mac : Int) (w : World) (h : ¬ (okOne own ∧ okMac mac)) :
    Calls Try.prog 22 #[.int .i64 own, .int .i64 mac] w fun e w' => e = .returned (.tuple #[.pointer none, .int .i64 50]) ∧ w' = w := by
  have H1 := rones_any own
  have H2 := rlink_any mac
  by_cases h1 : okOne own
  · have h2 : ¬ okMac mac := fun h2 => h ⟨h1, h2⟩
    rw [decide_eq_true h1] at H1
    rw [decide_eq_false h2] at H2
    go_enter Try.func22, Try.ntmps22
    go_wp2_with (first
      | (go_at_call 42; refine (H1 _).mono ?_; rintro e w' ⟨rfl, rfl⟩)
      | (go_at_call 43; refine (H2 _).mono ?_; rintro e w' ⟨rfl, rfl⟩))
    go_ret2
    exact ⟨rfl, rfl⟩
  · rw [decide_eq_false h1] at H1
    go_enter Try.func22, Try.ntmps22
    go_wp2_with (go_at_call 42; refine (H1 _).mono ?_; rintro e w' ⟨rfl, rfl⟩)
    go_ret2
    exact ⟨rfl, rfl⟩

/-- what Known gives -/
def knownE (L : List En) (a : Int) : Option En := L.find? (fun x => x.addr = a)
end Go.Proofs.Ytpkfjlbjahghgaa

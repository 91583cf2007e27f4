/- The keys in order, for a table of at most one datagram: slices.SortFunc, SortedFunc, maps.Keys; and the iterator over the table. -/
import Derived.Test.YtecboengeheapaaRtK2
namespace Go.Proofs.Ytecboengeheapaa
open Go.RowKit Go.Shelf Go.Maps
set_option linter.unusedVariables false
attribute [local go_sem] Oper.semAt_some

set_option maxRecDepth 20000 in
set_option maxHeartbeats 1600000 in
theorem len64_small (n : Nat) (hn : n ≤ 1) (w : World) : Calls Try.prog 114 #[.int .u64 (n : Int)] w fun e w' => (∃ k : Int, e = .returned (.int .i64 k)) ∧ w = w' := by
  rcases Nat.lt_or_ge n 1 with h | h
  · obtain rfl : n = 0 := by omega
    go_enter Try.func114, Try.ntmps114
    go_wp2_with fail
    go_ret
    exact ⟨⟨_, rfl⟩, rfl⟩
  · obtain rfl : n = 1 := by omega
    go_enter Try.func114, Try.ntmps114
    go_wp2_with fail
    go_ret
    exact ⟨⟨_, rfl⟩, rfl⟩
theorem len_small (n : Nat) (hn : n ≤ 1) (w : World) : Calls Try.prog 104 #[.int .u64 (n : Int)] w fun e w' => (∃ k : Int, e = .returned (.int .i64 k)) ∧ w = w' := by
  go_enter Try.func104, Try.ntmps104
  go_wp2_with fail
  refine (len64_small n hn _).mono ?_
  rintro e w' ⟨⟨k, rfl⟩, rfl⟩
  go_wp2_with fail
  go_ret
  exact ⟨⟨_, rfl⟩, rfl⟩

set_option maxRecDepth 20000 in
set_option maxHeartbeats 1600000 in
theorem ins_small (p : Option Addr) (n c : Nat) (hn : n ≤ 1) (f : Value) (w : World) : Calls Try.prog 105 #[.slice p n c, .int .i64 0, .int .i64 (n : Int), f] w fun e w' => e = .returned (.tuple #[]) ∧ w = w' := by
  have h1 : ((1 : Int) < (n : Int)) = False := eq_false (by omega)
  go_enter Try.func105, Try.ntmps105
  go_wp2_with fail
  refine wp_loop_rounds 1 ?_
  rw [rounds_succ]
  go_wp2_with fail
  refine bodyPost_end (v := .tuple #[]) (by simp [results, Try.results105, go_sem]; try rfl) rfl ⟨rfl, rfl⟩
set_option maxRecDepth 20000 in
set_option maxHeartbeats 1600000 in
theorem pdq_small (p : Option Addr) (n c : Nat) (hn : n ≤ 1) (k : Int) (f : Nat) (lb : Array Value) (w : World) : Calls Try.prog 103 #[.slice p n c, .int .i64 0, .int .i64 (n : Int), .int .i64 k, .func (.func f) #[] lb] w fun e w' => e = .returned (.tuple #[]) ∧ w = w' := by
  have h1 : ((n : Int) ≤ 12) = True := eq_true (by omega)
  have h2 : wrap64 ((n : Int) - 0) = (n : Int) := by rw [IntWalk.wrap64_in _ ⟨by omega, by omega⟩]; omega
  go_enter Try.func103, Try.ntmps103
  go_wp2_with fail
  refine wp_loop_rounds 1 ?_
  rw [rounds_succ]
  go_wp2_with fail
  refine (ins_small p n c hn _ _).mono ?_
  rintro e w' ⟨rfl, rfl⟩
  go_wp2_with fail
  exact bodyPost_ret (results_none rfl _ _ _) rfl ⟨rfl, rfl⟩

set_option maxRecDepth 20000 in
set_option maxHeartbeats 1600000 in
theorem sort_small (p : Option Addr) (n c : Nat) (hn : n ≤ 1) (f : Nat) (lb : Array Value) (w : World) : Calls Try.prog 97 #[.slice p n c, .func (.func f) #[] lb] w fun e w' => e = .returned (.tuple #[]) ∧ w = w' := by
  have h2 : IntKind.u64.wrap (n : Int) = (n : Int) := by
    have a1 : IntKind.u64.signed = false := rfl
    have a2 : IntKind.u64.bits = 64 := rfl
    simp [IntKind.wrap, a1, a2]; omega
  go_enter Try.func97, Try.ntmps97
  go_wp2_with fail
  refine (len_small n hn _).mono ?_
  rintro e w' ⟨⟨k, rfl⟩, rfl⟩
  go_wp2_with fail
  refine (pdq_small p n c hn k f lb _).mono ?_
  rintro e w' ⟨rfl, rfl⟩
  go_wp2_with fail
  refine bodyPost_end (v := .tuple #[]) (by simp [results, Try.results97, go_sem]; try rfl) rfl ⟨rfl, rfl⟩

section
variable (R : List PE) (hok : ∀ p ∈ R, okK p.x.k) (hR : R.Pairwise (fun p q => p.x.k ≠ q.x.k)) (Bm mb : Nat) (w : World)

theorem collect_any (hok : ∀ p ∈ R, okK p.x.k) (hR : R.Pairwise (fun p q => p.x.k ≠ q.x.k)) (hlen : R.length ≤ 1000) (hmb : mb < w.heap.size) (hB : w.heap[Bm]? = some (.cells #[.map (some mb)] 84)) (hown : w.ownsMap Try.prog 94 raw mb R.length (mapD R)) :
    Calls Try.prog 96 #[.func (.func 98) #[] #[.pointer (some ⟨Bm, 0, none⟩)]] w fun e w' =>
      ∃ v xs, e = .returned v ∧ xs.Perm (R.map (·.x.k)) ∧ w'.ownsRow w.heap.size 94 4 v xs.length (flatK xs) ∧ Below w.heap.size w w' := by
  have H := callsIn_wide.1 (appendSeq_in R hok hR hlen Bm mb w hmb hB hown)
  go_enter Try.func96, Try.ntmps96
  go_wp2_with fail
  refine H.mono ?_
  rintro e w' ⟨v, xs, rfl, h1, h2, h3⟩
  obtain ⟨q, c, rfl, -⟩ := row_shp h2
  go_wp2_with fail
  go_ret
  exact ⟨_, xs, rfl, h1, h2, h3⟩

theorem sorted_small (hok : ∀ p ∈ R, okK p.x.k) (hR : R.Pairwise (fun p q => p.x.k ≠ q.x.k)) (hlen : R.length ≤ 1) (hmb : mb < w.heap.size) (hB : w.heap[Bm]? = some (.cells #[.map (some mb)] 84)) (hown : w.ownsMap Try.prog 94 raw mb R.length (mapD R)) (f : Nat) (lb : Array Value) :
    Calls Try.prog 85 #[.func (.func 98) #[] #[.pointer (some ⟨Bm, 0, none⟩)], .func (.func f) #[] lb] w fun e w' =>
      ∃ q c, e = .returned (.slice q R.length c) ∧ w'.ownsRow w.heap.size 94 4 (.slice q R.length c) R.length (flatK (R.map (·.x.k))) ∧ Below w.heap.size w w' := by
  have H := collect_any R Bm mb w hok hR (by omega) hmb hB hown
  go_enter Try.func85, Try.ntmps85
  go_wp2_with fail
  refine H.mono ?_
  rintro e w' ⟨v, xs, rfl, h1, h2, h3⟩
  have hxs : xs = R.map (·.x.k) := by
    rcases R with _ | ⟨p, _ | ⟨p2, r⟩⟩
    · exact List.perm_nil.1 h1
    · exact List.perm_singleton.1 h1
    · simp at hlen
  have hl : xs.length = R.length := by rw [hxs]; simp
  rw [hxs, List.length_map] at h2
  obtain ⟨q, c, rfl, -⟩ := row_shp h2
  obtain ⟨n, hn⟩ : ∃ n, R.length = n := ⟨_, rfl⟩
  rw [hn] at h2 hlen ⊢
  have H2 := Lib.hid h2
  have HN := Lib.hid hn
  clear h1 h2 hl hxs hn
  go_wp2_with fail
  refine (sort_small q n c hlen f lb _).mono ?_
  rintro e w9 ⟨rfl, rfl⟩
  go_wp2_with fail
  go_ret
  have hnn := HN.out
  subst hnn
  exact ⟨q, c, rfl, H2.out, h3⟩
end

theorem keysf_any (mb : Nat) (w : World) : Calls Try.prog 86 #[.map (some mb)] w fun e w' =>
    e = .returned (.func (.func 98) #[] #[.pointer (some ⟨w.heap.size, 0, none⟩)]) ∧ w' = w.alloc (.cells #[.map (some mb)] 84) := by
  go_enter Try.func86, Try.ntmps86
  go_wp2_with fail
  go_ret
  exact ⟨rfl, rfl⟩
theorem order_any (T : Nat) (w : World) : Calls Try.prog 61 #[.pointer (some ⟨T, 0, none⟩)] w fun e w' =>
    e = .returned (.func (.func 82) #[] #[.pointer (some ⟨w.heap.size, 0, none⟩)]) ∧ w' = w.alloc (.cells #[.pointer (some ⟨T, 0, none⟩)] 47) := by
  go_enter Try.func61, Try.ntmps61
  go_wp2_with fail
  go_ret
  exact ⟨rfl, rfl⟩
end Go.Proofs.Ytecboengeheapaa

/- Contract of the reference's Known and Sizes. -/
import Derived.Test.YtpkfjlbjahghgaaArTab
namespace Go.Proofs.Ytpkfjlbjahghgaa
open Go.RowKit
set_option linter.unusedVariables false
attribute [local go_sem] Oper.semAt_some

/-- the strings of a slice -/
def HeldAt (w : World) (p : Option Addr) (hs : List ByteArray) : Prop := hs = [] ∨ ∃ b o : Nat, p = some ⟨b, o, none⟩ ∧ ∀ (j : Nat) (h : j < hs.length), w.cell? ⟨b, o + j, none⟩ = some (.string hs[j])
/-- an entry in its nine cells -/
structure EnAt (w : World) (g i : Nat) (x : En) : Prop where
  addr : w.cell? ⟨g, i * 9, none⟩ = some (.int .i64 x.addr)
  known : w.cell? ⟨g, i * 9 + 1, none⟩ = some (.bool x.known)
  mac : w.cell? ⟨g, i * 9 + 2, none⟩ = some (.int .i64 x.mac)
  told : w.cell? ⟨g, i * 9 + 3, none⟩ = some (.int .i64 x.told)
  sent : w.cell? ⟨g, i * 9 + 4, none⟩ = some (.int .i64 x.sent)
  held : ∃ p cap, w.cell? ⟨g, i * 9 + 5, none⟩ = some (.slice p x.held.length cap) ∧ HeldAt w p x.held
  tries : w.cell? ⟨g, i * 9 + 6, none⟩ = some (.int .i64 x.tries)
  first : w.cell? ⟨g, i * 9 + 7, none⟩ = some (.int .i64 x.first)
  last : w.cell? ⟨g, i * 9 + 8, none⟩ = some (.int .i64 x.last)
def EnsAt (w : World) (g : Nat) (L : List En) : Prop := ∀ (i : Nat) (h : i < L.length), EnAt w g i L[i]

theorem findE_spec (a : Int) : ∀ (L : List En) (k : Int), (findE a L k = -1 ∧ L.find? (fun x => decide (x.addr = a)) = none) ∨ ∃ (i : Nat) (h : i < L.length), findE a L k = k + i ∧ L.find? (fun x => decide (x.addr = a)) = some L[i]
  | [], k => .inl ⟨rfl, rfl⟩
  | x :: l, k => by
    by_cases h : x.addr = a
    · refine .inr ⟨0, by simp, ?_, ?_⟩
      · simp [findE, h]
      · simp [h]
    · rcases findE_spec a l (k + 1) with ⟨h1, h2⟩ | ⟨i, hi, h1, h2⟩
      · refine .inl ⟨by rw [findE, if_neg h, h1], ?_⟩
        rw [List.find?_cons_of_neg (by simpa using h), h2]
      · refine .inr ⟨i + 1, by simp; omega, ?_, ?_⟩
        · rw [findE, if_neg h, h1]; push_cast; omega
        · rw [List.find?_cons_of_neg (by simpa using h), h2]; rfl

/-- what Known gives -/
def knE (L : List En) (a : Int) : Int × Bool := match L.find? (fun x => decide (x.addr = a)) with
  | some x => if x.known then (x.mac, true) else (0, false)
  | none => (0, false)

set_option maxHeartbeats 1600000 in
theorem rknown_any (B g cap : Nat) (own mac a when : Int) (said : Bool) (L : List En) (w : World) (hB : w.heap[B]? = some (to own mac (.slice (some ⟨g, 0, none⟩) L.length cap) said when)) (hA : EnsAt w g L) (hn : L.length ≤ 1000) :
    Calls Try.prog 36 #[.pointer (some ⟨B, 0, none⟩), .int .i64 a] w fun e w' => e = .returned (.tuple #[.int .i64 (knE L a).1, .bool (knE L a).2]) ∧ w = w' := by
  have H := fun w hB hA => rfind_any B g cap own mac a when said L w hB hA hn
  have H := H w hB (fun i h => (hA i h).addr)
  have x2 := (blk_cell (k := 2) hB rfl).1
  simp only [List.getElem_toArray, List.getElem_cons_zero, List.getElem_cons_succ] at x2
  unfold knE
  rcases findE_spec a L 0 with ⟨h1, h2⟩ | ⟨i, hi, h1, h2⟩
  · rw [h1] at H
    rw [h2]
    go_enter Try.func36, Try.ntmps36
    go_wp2_with fail
    refine H.mono ?_
    rintro e w' ⟨rfl, rfl⟩
    clear H
    go_wp2
    go_ret2
    exact ⟨rfl, rfl⟩
  · rw [h1] at H
    rw [h2]
    have hE := hA i hi
    obtain ⟨x, hx⟩ : ∃ x, L[i] = x := ⟨_, rfl⟩
    rw [hx] at hE
    rw [hx]
    obtain ⟨n, hnn⟩ : ∃ n, L.length = n := ⟨_, rfl⟩
    rw [hnn] at x2 hn hi
    have c1 := hE.known
    have c2 := hE.mac
    simp only [Int.zero_add] at H
    obtain ⟨m, hm⟩ : ∃ m, x.mac = m := ⟨_, rfl⟩
    rw [hm] at c2
    clear h1 h2 hx hA hE hnn hB
    cases hk : x.known
    · rw [hk] at c1
      simp only [hk, Bool.false_eq_true, if_false]
      clear hk
      go_enter Try.func36, Try.ntmps36
      go_wp2_with fail
      refine H.mono ?_
      rintro e w' ⟨rfl, rfl⟩
      clear H
      go_wp2
      go_ret2
      exact ⟨rfl, rfl⟩
    · rw [hk] at c1
      simp only [hk, if_true, hm]
      clear hk
      go_enter Try.func36, Try.ntmps36
      go_wp2_with fail
      refine H.mono ?_
      rintro e w' ⟨rfl, rfl⟩
      clear H
      go_wp2
      go_ret2
      exact ⟨rfl, rfl⟩

/-- pending packets of all entries -/
def sumE : List En → Nat
  | [] => 0
  | x :: l => x.held.length + sumE l
theorem sumE_le {m : Nat} : ∀ (L : List En), (∀ x ∈ L, x.held.length ≤ m) → sumE L ≤ m * L.length
  | [], _ => by simp [sumE]
  | x :: l, h => by
    have h1 := h x (by simp)
    have h2 := sumE_le l (fun y hy => h y (by simp [hy]))
    simp only [sumE, List.length_cons, Nat.mul_succ]
    omega

set_option maxHeartbeats 1600000 in
theorem rsizes_any (B g cap : Nat) (own mac when : Int) (said : Bool) (L : List En) (w : World) (hB : w.heap[B]? = some (to own mac (.slice (some ⟨g, 0, none⟩) L.length cap) said when)) (hA : EnsAt w g L) (hn : L.length ≤ 1000) (hh : ∀ x ∈ L, x.held.length ≤ 1000) :
    Calls Try.prog 34 #[.pointer (some ⟨B, 0, none⟩)] w fun e w' => e = .returned (.tuple #[.int .i64 (L.length : Int), .int .i64 (sumE L : Int)]) ∧ w = w' := by
  have hS := sumE_le L hh
  obtain ⟨n, hnn⟩ : ∃ n, L.length = n := ⟨_, rfl⟩
  obtain ⟨S, hSS⟩ : ∃ S, sumE L = S := ⟨_, rfl⟩
  have x2 := (blk_cell (k := 2) hB rfl).1
  simp only [List.getElem_toArray, List.getElem_cons_zero, List.getElem_cons_succ] at x2
  rw [hSS, hnn] at hS
  rw [hSS, hnn]
  rw [hnn] at x2 hn
  have HS := Lib.hid hSS
  clear hSS hB
  go_enter Try.func34, Try.ntmps34
  go_wp2_with fail
  go_loop [4, 5] (fun c i => ∃ (k q : Nat), k ≤ n ∧ q ≤ 1000 * k ∧ c = .int .i64 q ∧ i = .int .i64 k ∧ Hid (q + sumE (L.drop k) = S)) (fun _ i => n - (intOf i).toNat)
  case atStart => exact ⟨0, 0, by omega, by omega, rfl, rfl, Lib.hid (by rw [Nat.zero_add, List.drop_zero]; exact HS.out)⟩
  case round =>
    obtain ⟨k, q, hk, hq, rfl, rfl, Hk⟩ := hrel
    by_cases h : k < n
    · have hE := hA k (by omega)
      have hd : L.drop k = L[k]'(by omega) :: L.drop (k + 1) := List.drop_eq_getElem_cons (by omega)
      have hxm := hh (L[k]'(by omega)) (List.getElem_mem _)
      obtain ⟨x, hx⟩ : ∃ x, L[k]'(by omega) = x := ⟨_, rfl⟩
      rw [hx] at hE hd hxm
      obtain ⟨p, hc, hp, -⟩ := hE.held
      obtain ⟨m, hm⟩ : ∃ m, x.held.length = m := ⟨_, rfl⟩
      rw [hm] at hp hxm
      have hs := Hk.out
      rw [hd, sumE, hm] at hs
      have HE := Lib.hid (show (q + m) + sumE (L.drop (k + 1)) = S by omega)
      clear hs hd hx hE hm Hk
      go_wp2
      exact ⟨⟨k + 1, q + m, by omega, by omega, by go_num, by go_num, HE⟩, by simp [intOf]; omega⟩
    · obtain rfl : k = n := by omega
      have hE := Hk.out
      rw [← hnn, List.drop_length, sumE] at hE
      have hz : q = S := by omega
      subst hz
      clear hE Hk
      go_wp2
      go_ret2
      exact ⟨rfl, rfl⟩
end Go.Proofs.Ytpkfjlbjahghgaa

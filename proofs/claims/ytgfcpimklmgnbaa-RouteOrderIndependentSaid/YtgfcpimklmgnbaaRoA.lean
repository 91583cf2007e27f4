/- Contracts of within, unicast, ValidInterface, IsLocal. -/
import Derived.Test.YtgfcpimklmgnbaaRoM
namespace Go.Proofs.Ytgfcpimklmgnbaa
open Go.RowKit
set_option linter.unusedVariables false

theorem within_any (n a b : Int) (w : World) :
    Calls Try.prog 24 #[.int .i64 n, .int .i64 a, .int .i64 b] w fun e w' => e = .returned (.bool (decide (a ≤ n) && decide (n ≤ b))) ∧ w = w' := by
  by_cases h : a ≤ n
  · go_enter Try.func24, Try.ntmps24
    go_wp2
    go_ret
    exact ⟨ret_bool (by simp [h]), rfl⟩
  · have h' : n < a := by omega
    go_enter Try.func24, Try.ntmps24
    go_wp2
    go_ret
    exact ⟨ret_bool (by rw [show decide (a ≤ n) = false from decide_eq_false (by omega)]; rfl), rfl⟩
theorem uni_any (a : Int) (w : World) :
    Calls Try.prog 27 #[.int .i64 a] w fun e w' => e = .returned (.bool (uni a)) ∧ w = w' := by
  have H := Lib.hid (within_any a 1 4294967294)
  go_enter Try.func27, Try.ntmps27
  go_wp2_with fail
  refine (H.out _).mono ?_
  rintro e w' ⟨rfl, rfl⟩
  go_wp2
  go_ret
  exact ⟨rfl, rfl⟩
theorem ones_any (a : Int) (w : World) :
    Calls Try.prog 31 #[.int .i64 a] w fun e w' => e = .returned (.bool (uni a)) ∧ w = w' := by
  by_cases h : 1 ≤ a
  · go_enter Try.func31, Try.ntmps31
    go_wp2
    go_ret
    exact ⟨ret_bool (by simp [uni, h]), rfl⟩
  · have h' : a < 1 := by omega
    go_enter Try.func31, Try.ntmps31
    go_wp2
    go_ret
    exact ⟨ret_bool (by unfold uni; rw [show decide (1 ≤ a) = false from decide_eq_false (by omega)]; rfl), rfl⟩

/-- slices.IndexFunc over the interfaces, with the closure that looks for an address -/
def ixI (fs : List Fc) (a : Int) : Int := match locN fs a with | some i => (i : Int) | none => -1
theorem cmp_any (f : Fc) (a : Int) (k : Addr) (w : World) (hc : w.cell? k = some (.int .i64 a)) :
    Calls Try.prog 34 #[fv f, .pointer (some k)] w fun e w' => e = .returned (.bool (f.addr == a)) ∧ Below w.heap.size w w' := by
  have hc2 := World.cell?_alloc_some w k (fo f) (by rw [hc]; rfl)
  rw [hc] at hc2
  go_enter Try.func34, Try.ntmps34
  go_wp2
  go_ret
  exact ⟨rfl, (Below.refl _ _).alloc (Nat.le_refl _) _⟩

set_option maxHeartbeats 1600000 in
theorem index_any (fs : List Fc) (a : Int) (k : Addr) (v : Value) (w : World) (hf : FsAt w v fs) (hc : w.cell? k = some (.int .i64 a)) :
    Calls Try.prog 33 #[v, .func (.func 34) #[] #[.pointer (some k)]] w fun e w' => e = .returned (.int .i64 (ixI fs a)) ∧ Below w.heap.size w w' := by
  obtain ⟨p, c, rfl, hl⟩ := hf.form
  obtain ⟨n, hn⟩ : ∃ n, fs.length = n := ⟨_, rfl⟩
  rw [hn] at hf hl ⊢
  have HF := Lib.hid hf
  have HC := Lib.hid hc
  have HN := Lib.hid hn
  clear hf hc hn
  go_enter Try.func33, Try.ntmps33
  go_wp2_with fail
  go_loopw [8] (fun i wr => ∃ j : Nat, j ≤ n ∧ i = .int .i64 (j : Int) ∧ Hid (Below w.heap.size w wr) ∧ Hid (∀ (i : Nat) (f : Fc), i < j → fs[i]? = some f → f.addr ≠ a)) (fun i _ => n - (intOf i).toNat)
  case atStart => exact ⟨0, Nat.zero_le _, rfl, Below.refl _ _, fun i f h => by omega⟩
  case round =>
    obtain ⟨j, hj, rfl, HB, HL⟩ := hrel
    rcases Nat.lt_or_ge j n with hjn | hjn
    · obtain ⟨f, hfj, hin, g, hp, hg, c0, c1, c2, c3, c4⟩ := (HF.out.keep HB.out).at j hjn
      subst hp
      have hck := (HB.out.cell (World.block_lt_of_cell? _ _ HC.out)).trans HC.out
      have HM := fun w h => Lib.hid (cmp_any f a k w h)
      have HFJ := Lib.hid hfj
      have hji : (j : Int) < (n : Int) := by omega
      clear hfj hin
      go_wp2_with fail
      refine (HM _ hck).out.mono ?_
      rintro e w2 ⟨rfl, hb2⟩
      cases hq : (f.addr == a)
      · go_wp2_with fail
        go_roundw
        case rel => exact ⟨j + 1, by omega, by go_num, HB.out.trans (hb2.mono HB.out.size), fun i f' hi hfi => by
          rcases Nat.lt_or_ge i j with h | h
          · exact HL.out i f' h hfi
          · obtain rfl : i = j := by omega
            rw [HFJ.out] at hfi
            cases hfi
            simpa using hq⟩
        case measure => simp [intOf]; omega
      · go_wp2_with fail
        go_ret
        have := locN_some HFJ.out (by simpa using hq) HL.out
        exact ⟨by simp only [ixI, this]; rfl, HB.out.trans (hb2.mono HB.out.size)⟩
    · obtain rfl : j = n := by omega
      go_wp2_with fail
      go_ret
      have := locN_none (fs := fs) (a := a) fun i f h => HL.out i f (by rw [← HN.out]; exact (List.getElem?_eq_some_iff.1 h).1) h
      exact ⟨by simp only [ixI, this]; rfl, HB.out⟩

theorem max_loc (fs : List Fc) (a : Int) (h : fs.length ≤ 1000) : (ixI fs a < 0 → locI fs a = 0 ∧ locB fs a = false) ∧ (0 ≤ ixI fs a → locI fs a = ixI fs a ∧ locB fs a = true) ∧ -1 ≤ ixI fs a ∧ ixI fs a ≤ 1000 := by
  unfold ixI locI locB
  cases hl : locN fs a with
  | none => simp
  | some i =>
    unfold locN at hl
    rw [List.findIdx?_eq_some_iff_getElem] at hl
    have := hl.1
    refine ⟨fun h => by simp only at h; omega, fun _ => ⟨rfl, rfl⟩, by simp only; omega, by simp only; omega⟩

theorem isl_any (fs : List Fc) (a : Int) (v : Value) (w : World) (hf : FsAt w v fs) :
    Calls Try.prog 17 #[v, .int .i64 a] w fun e w' => e = .returned (.tuple #[.int .i64 (locI fs a), .bool (locB fs a)]) ∧ Below w.heap.size w w' := by
  have hb0 : Below w.heap.size w (w.alloc (.cells #[.int .i64 a] 3)) := (Below.refl _ w).alloc (Nat.le_refl _) _
  have H := Lib.hid (index_any fs a ⟨w.heap.size, 0, none⟩ v _ (hf.keep hb0) (by simp))
  obtain ⟨m1, m2, m3, m4⟩ := max_loc fs a hf.1
  obtain ⟨i, hi⟩ : ∃ i, ixI fs a = i := ⟨_, rfl⟩
  rw [hi] at H m1 m2 m3 m4
  clear hi hf
  by_cases hi0 : i < 0
  · obtain ⟨e1, e2⟩ := m1 hi0
    rw [e1, e2]
    have hi1 : ¬ (0 ≤ i) := by omega
    have hi2 : (0 < i) = False := eq_false (by omega)
    have hi3 : decide (0 ≤ i) = false := decide_eq_false hi1
    have E1 := Lib.hid e1
    have E2 := Lib.hid e2
    clear e1 e2 m1 m2
    go_enter Try.func17, Try.ntmps17
    go_wp2_with fail
    refine H.out.mono ?_
    rintro e w2 ⟨rfl, hb2⟩
    go_wp2_with fail
    go_ret2
    exact ⟨rfl, hb0.trans (hb2.mono hb0.size)⟩
  · obtain ⟨e1, e2⟩ := m2 (by omega)
    rw [e1, e2]
    have hi3 : decide (0 ≤ i) = true := decide_eq_true (by omega)
    have E1 := Lib.hid e1
    have E2 := Lib.hid e2
    clear e1 e2 m1 m2
    go_enter Try.func17, Try.ntmps17
    go_wp2_with fail
    refine H.out.mono ?_
    rintro e w2 ⟨rfl, hb2⟩
    go_wp2_with fail
    go_ret2
    exact ⟨rfl, hb0.trans (hb2.mono hb0.size)⟩

set_option maxHeartbeats 1600000 in
theorem risl_any (fs : List Fc) (a : Int) (v : Value) (w : World) (hf : FsAt w v fs) :
    Calls Try.prog 18 #[v, .int .i64 a] w fun e w' => e = .returned (.tuple #[.int .i64 (locI fs a), .bool (locB fs a)]) ∧ w = w' := by
  obtain ⟨p, c, rfl, hl⟩ := hf.form
  obtain ⟨n, hn⟩ : ∃ n, fs.length = n := ⟨_, rfl⟩
  rw [hn] at hf hl ⊢
  have HF := Lib.hid hf
  have HN := Lib.hid hn
  clear hf hn
  go_enter Try.func18, Try.ntmps18
  go_wp2_with fail
  go_loop [6] (fun i => ∃ j : Nat, j ≤ n ∧ i = .int .i64 (j : Int) ∧ Hid (∀ (i : Nat) (f : Fc), i < j → fs[i]? = some f → f.addr ≠ a)) (fun i => n - (intOf i).toNat)
  case atStart => exact ⟨0, Nat.zero_le _, rfl, fun i f h => by omega⟩
  case round =>
    obtain ⟨j, hj, rfl, HL⟩ := hrel
    rcases Nat.lt_or_ge j n with hjn | hjn
    · obtain ⟨f, hfj, hin, g, hp, hg, c0, c1, c2, c3, c4⟩ := HF.out.at j hjn
      subst hp
      have HFJ := Lib.hid hfj
      have hji : (j : Int) < (n : Int) := by omega
      clear hfj hin
      cases hq : (f.addr == a)
      · go_wp2_with fail
        go_round
        case rel => exact ⟨j + 1, by omega, by go_num, fun i f' hi hfi => by
          rcases Nat.lt_or_ge i j with h | h
          · exact HL.out i f' h hfi
          · obtain rfl : i = j := by omega
            rw [HFJ.out] at hfi
            cases hfi
            simpa using hq⟩
        case measure => simp [intOf]; omega
      · go_wp2_with fail
        go_ret2
        have := locN_some HFJ.out (by simpa using hq) HL.out
        exact ⟨by simp only [locI, locB, this]; rfl, rfl⟩
    · obtain rfl : j = n := by omega
      go_wp2_with fail
      go_ret2
      have := locN_none (fs := fs) (a := a) fun i f h => HL.out i f (by rw [← HN.out]; exact (List.getElem?_eq_some_iff.1 h).1) h
      exact ⟨by simp only [locI, locB, this]; rfl, rfl⟩
end Go.Proofs.Ytgfcpimklmgnbaa

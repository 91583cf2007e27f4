/- Contracts of complete (slices.Contains, slices.Index) and stored. -/
import Derived.Test.YtecboengeheapaaRtP
namespace Go.Proofs.Ytecboengeheapaa
open Go.RowKit
set_option linter.unusedVariables false
attribute [local go_sem] Oper.semAt_some

/-- a bool of such a row -/
theorem bool_at {w : World} {base n c : Nat} {p : Option Addr} {r : List Bool} (h : w.ownsRow base 4 1 (.slice p n c) n (bls r)) (hn : r.length = n) {k : Nat} (hk : k < r.length) :
    ∃ g, p = some ⟨g, 0, none⟩ ∧ w.cell? ⟨g, k, none⟩ = some (.bool r[k]) := by
  rcases h.2 with ⟨e1, e2⟩ | ⟨g, cap, cur, e1, -⟩
  · omega
  · cases e1
    refine ⟨g, rfl, ?_⟩
    rw [h.cellAt k (by omega)]
    simp [bls, hk]
theorem byte_at {w : World} {base n c : Nat} {p : Option Addr} {t : List UInt8} (h : w.ownsRow base 5 1 (.slice p n c) n (byt t)) (hn : t.length = n) {k : Nat} (hk : k < t.length) :
    ∃ g, p = some ⟨g, 0, none⟩ ∧ w.cell? ⟨g, k, none⟩ = some (.int .u8 (t[k].toNat : Int)) := by
  rcases h.2 with ⟨e1, e2⟩ | ⟨g, cap, cur, e1, -⟩
  · omega
  · cases e1
    refine ⟨g, rfl, ?_⟩
    rw [h.cellAt k (by omega)]
    simp [byt, byteV, hk]

set_option maxRecDepth 20000 in
set_option maxHeartbeats 1600000 in
theorem index_any {w : World} {base n c : Nat} {p : Option Addr} {r : List Bool} (h : w.ownsRow base 4 1 (.slice p n c) n (bls r)) (hn : r.length = n) (hs : n ≤ 4000) :
    Calls Try.prog 94 #[.slice p n c, .bool false] w fun e w' => ∃ k : Int, e = .returned (.int .i64 k) ∧ decide (k ≥ 0) = r.contains false ∧ w = w' := by
  have HR := Lib.hid h
  clear h
  go_enter Try.func94, Try.ntmps94
  go_wp2_with fail
  go_loopw [8] (fun i wr => ∃ k : Nat, k ≤ n ∧ i = .int .i64 (k : Int) ∧ Hid (∀ j (hj : j < r.length), j < k → r[j] = true) ∧ w = wr) (fun i _ => n - (intOf i).toNat)
  case atStart => exact ⟨0, by omega, rfl, Lib.hid (fun j _ h => by omega), rfl⟩
  case round =>
    obtain ⟨k, hk, rfl, hno, rfl⟩ := hrel
    rcases Nat.lt_or_ge k n with hkn | hkn
    · obtain ⟨g, rfl, hc⟩ := bool_at HR.out hn (k := k) (by omega)
      have hki : (k : Int) < n := by omega
      cases hb : r[k]'(by omega) with
      | true =>
        rw [hb] at hc
        have HB := Lib.hid hb
        clear hb
        go_wp2
        refine ⟨⟨k + 1, by omega, by simp, Lib.hid (fun j hj h => ?_), trivial⟩, ?_⟩
        · rcases Nat.lt_or_ge j k with h1 | h1
          · exact hno.out j hj h1
          · obtain rfl : j = k := by omega
            exact HB.out
        · show n - ((k : Int) + 1).toNat < n - (k : Int).toNat
          omega
      | false =>
        rw [hb] at hc
        have HB := Lib.hid hb
        clear hb
        go_wp2
        go_ret
        refine ⟨_, rfl, ?_, rfl⟩
        rw [decide_eq_true (by omega)]
        symm
        rw [List.contains_iff_mem]
        exact HB.out ▸ List.getElem_mem _
    · obtain rfl : k = n := by omega
      go_wp2
      go_ret
      refine ⟨_, rfl, ?_, rfl⟩
      rw [decide_eq_false (by omega)]
      symm
      rw [Bool.eq_false_iff]
      intro hc
      obtain ⟨j, hj, he⟩ := List.getElem_of_mem (List.contains_iff_mem.1 hc)
      rw [hno.out j hj (by omega)] at he
      cases he

theorem contains_any {w : World} {base n c : Nat} {p : Option Addr} {r : List Bool} (h : w.ownsRow base 4 1 (.slice p n c) n (bls r)) (hn : r.length = n) (hs : n ≤ 4000) :
    Calls Try.prog 80 #[.slice p n c, .bool false] w fun e w' => e = .returned (.bool (r.contains false)) ∧ w = w' := by
  have H := index_any h hn hs
  clear h
  go_enter Try.func80, Try.ntmps80
  go_wp2_with fail
  refine H.mono ?_
  rintro e w' ⟨k, rfl, hk, rfl⟩
  go_wp2
  go_ret
  exact ⟨ret_bool (by simp), rfl⟩

set_option maxRecDepth 20000 in
set_option maxHeartbeats 1600000 in
theorem complete_any {w : World} {base : Nat} {p : PE} (h : EntAt w base p) :
    Calls Try.prog 55 #[ptr p.b] w fun e w' => e = .returned (.bool (compD p.x)) ∧ w = w' := by
  obtain ⟨-, -, -, -, c13, c14⟩ := dg_cells h.blk
  have hr := h.rcv
  obtain ⟨n, hn⟩ : ∃ n, p.x.rcv.length = n := ⟨_, rfl⟩
  have hl := h.len
  rw [hn] at hr hl
  replace hl : n ≤ 4000 := by omega
  obtain ⟨q, c, hq, -⟩ := row_shp hr
  rw [hq] at hr c13
  have H := contains_any hr hn hl
  clear hl
  unfold compD ptr
  clear hr h
  cases hf : p.x.fin with
  | true =>
    rw [hf] at c14
    go_enter Try.func55, Try.ntmps55
    go_wp2_with (refine H.mono ?_; rintro e w' ⟨rfl, rfl⟩)
    go_ret
    exact ⟨ret_bool (by simp), rfl⟩
  | false =>
    rw [hf] at c14
    go_enter Try.func55, Try.ntmps55
    go_wp2_with fail
    go_ret
    exact ⟨ret_bool (by simp), rfl⟩

set_option maxRecDepth 20000 in
set_option maxHeartbeats 1600000 in
theorem stored_any {w : World} {base : Nat} {p : PE} (h : EntAt w base p) :
    Calls Try.prog 66 #[ptr p.b] w fun e w' => e = .returned (.int .i64 (cnt p.x.rcv : Int)) ∧ w = w' := by
  obtain ⟨-, -, -, -, c13, -⟩ := dg_cells h.blk
  have hr := h.rcv
  obtain ⟨r, hrr⟩ : ∃ r, p.x.rcv = r := ⟨_, rfl⟩
  have hl := h.len
  rw [hrr] at hr hl ⊢
  obtain ⟨n, hn⟩ : ∃ n, r.length = n := ⟨_, rfl⟩
  rw [hn] at hr hl
  replace hl : n ≤ 4000 := by omega
  obtain ⟨q, c, hq, -⟩ := row_shp hr
  rw [hq] at hr c13
  have HR := Lib.hid hr
  unfold ptr
  clear hr h hrr
  have hcn := fun k => cnt_le (r.take k)
  have HC := Lib.hid hcn
  clear hcn
  go_enter Try.func66, Try.ntmps66
  go_wp2_with fail
  go_loopw [3, 11] (fun m i wr => ∃ k s : Nat, k ≤ n ∧ i = .int .i64 (k : Int) ∧ m = .int .i64 (s : Int) ∧ Hid (cnt (r.take k) = s) ∧ s ≤ 4000 ∧ w = wr) (fun _ i _ => n - (intOf i).toNat)
  case atStart => exact ⟨0, 0, by omega, rfl, rfl, Lib.hid (by simp [cnt]), by omega, rfl⟩
  case round =>
    obtain ⟨k, s, hk, rfl, rfl, hs, hs4, rfl⟩ := hrel
    rcases Nat.lt_or_ge k n with hkn | hkn
    · obtain ⟨g, rfl, hc⟩ := bool_at HR.out hn (k := k) (by omega)
      have hki : (k : Int) < n := by omega
      have hst := cnt_take r k (by omega)
      rw [hs.out] at hst
      have hle := HC.out (k + 1)
      rw [hst, List.length_take] at hle
      cases hb : r[k]'(by omega) with
      | true =>
        rw [hb] at hc hst hle
        have HST := Lib.hid hst
        clear hb hst
        simp only [if_true] at hle
        go_wp2
        refine ⟨⟨k + 1, s + 1, by omega, by simp, by simp, Lib.hid HST.out, by omega, trivial⟩, ?_⟩
        show n - ((k : Int) + 1).toNat < n - (k : Int).toNat
        omega
      | false =>
        rw [hb] at hc hst
        have HST := Lib.hid hst
        clear hb hst hle
        go_wp2
        refine ⟨⟨k + 1, s, by omega, by simp, rfl, Lib.hid (by simpa using HST.out), by omega, trivial⟩, ?_⟩
        show n - ((k : Int) + 1).toNat < n - (k : Int).toNat
        omega
    · obtain rfl : k = n := by omega
      have hfin := hs.out
      rw [List.take_of_length_le (by omega)] at hfin
      have HF := Lib.hid hfin
      clear hfin
      go_wp2
      go_ret
      rw [HF.out]
      exact ⟨rfl, rfl⟩
end Go.Proofs.Ytecboengeheapaa

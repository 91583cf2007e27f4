/- Contract of icmp.validError. Contract of icmp.carriesError. -/
import Derived.Test.YtidjbpglpobigaaDoorImX
import Derived.Test.YtidjbpglpobigaaDoorIpH
import Derived.Lib.Strings
namespace Go.Proofs.YtidjbpglpobigaaDoor
section
attribute [local go_sem] Oper.semAt_some
open Go.RowKit Go.Maps
set_option linter.unusedVariables false

def iw (b : Bool) (v d : Value) : Value := if b then v else d
def VEt (w0 : World) (m : Ms) (fv : Value) (room : Int) (M : Nat) (l : Array Bool) (a : Act) (W : World) : Prop := ∃ (mb : Nat) (b0 b1 b2 b3 b4 b5 b6 b7 b8 b9 : Bool), l = #[b0, b1, b2, b3, b4, b5, b6, b7, b8, b9] ∧
  a = { tmps := #[mv m, .pointer (some ⟨M, 0, none⟩), iw b9 (.bool (decide (okM m))) (.bool false), iv b0 (.map (some mb)), iv b1 (.pointer (some ⟨M, 0, none⟩)), iv b2 (.int .i64 m.k), iv b3 (.agg #[fv, .int .i64 room, .bool true]), iv b4 (.bool true), iv b5 (.bool true), iv b6 (mv m), iv b7 (.bool (decide (okM m))), iv b8 (.bool (decide (okM m)))], defers := [] } ∧ VW w0 m fv room true M mb 0 b0 false false W

set_option maxRecDepth 100000 in
set_option maxHeartbeats 6400000 in
theorem mverr_true (m : Ms) (hk : b64i m.k) (hs : m.s.size ≤ maxLen) (fv : Value) (room : Int) (hr : ruleOf m.k = .agg #[fv, .int .i64 room, .bool true]) (w : World) :
    Calls Tryd.prog 43 #[mv m] w fun e9 w' => e9 = .returned (.bool (decide (okM m))) ∧ Below w.heap.size w w' := by
  have HK := Lib.hid hk
  have HS := Lib.hid hs
  clear hk hs
  go_enter Tryd.func43, Tryd.ntmps43
  go_wp2_with fail
  refine wp_region_inv (by kernel_rfl) (VEt w m fv room w.heap.size) ?h0 ?hd ?hs
  case h0 =>
    refine ⟨0, false, false, false, false, false, false, false, false, false, false, rfl, rfl, ?_, ?_, Nat.le_refl _, (fun h => by cases h), ?_⟩
    · exact ((Below.refl _ w).alloc (Nat.le_refl _) _).drew
    · exact blk_new w _
    · rw [if_neg (by decide)]
  case hd =>
    rintro l a W ⟨mb, b0, b1, b2, b3, b4, b5, b6, b7, b8, b9, rfl, rfl, hW⟩ hr9
    obtain rfl : b0 = true := by simpa [Region.binds, Array.getD] using List.filter_eq_nil_iff.1 hr9 0 (by simp)
    obtain rfl : b1 = true := by simpa [Region.binds, Array.getD] using List.filter_eq_nil_iff.1 hr9 1 (by simp)
    obtain rfl : b2 = true := by simpa [Region.binds, Array.getD] using List.filter_eq_nil_iff.1 hr9 2 (by simp)
    obtain rfl : b3 = true := by simpa [Region.binds, Array.getD] using List.filter_eq_nil_iff.1 hr9 3 (by simp)
    obtain rfl : b4 = true := by simpa [Region.binds, Array.getD] using List.filter_eq_nil_iff.1 hr9 4 (by simp)
    obtain rfl : b5 = true := by simpa [Region.binds, Array.getD] using List.filter_eq_nil_iff.1 hr9 5 (by simp)
    obtain rfl : b6 = true := by simpa [Region.binds, Array.getD] using List.filter_eq_nil_iff.1 hr9 6 (by simp)
    obtain rfl : b7 = true := by simpa [Region.binds, Array.getD] using List.filter_eq_nil_iff.1 hr9 7 (by simp)
    obtain rfl : b8 = true := by simpa [Region.binds, Array.getD] using List.filter_eq_nil_iff.1 hr9 8 (by simp)
    obtain rfl : b9 = true := by simpa [Region.binds, Array.getD] using List.filter_eq_nil_iff.1 hr9 9 (by simp)
    unfold iv iw
    clear hr9
    have hB := hW.1
    clear hW
    go_wp2
    go_ret
    exact ⟨rfl, hB⟩
  case hs =>
    rintro l a W i ⟨mb, b0, b1, b2, b3, b4, b5, b6, b7, b8, b9, rfl, rfl, hW⟩ hi
    have hi1 := (List.mem_filter.1 hi).1
    have hi2 := (List.mem_filter.1 hi).2
    clear hi
    rw [List.mem_range] at hi1
    simp only [List.size_toArray, List.length_cons, List.length_nil] at hi1
    rcases (by omega : i = 0 ∨ i = 1 ∨ i = 2 ∨ i = 3 ∨ i = 4 ∨ i = 5 ∨ i = 6 ∨ i = 7 ∨ i = 8 ∨ i = 9) with rfl | rfl | rfl | rfl | rfl | rfl | rfl | rfl | rfl | rfl
    · simp [Region.binds, Array.getD] at hi2
      obtain rfl := hi2
      refine wpOp_step rfl (fun K hK => ?_)
      unfold iv
      go_simp
      refine (rules_any _).mono ?_
      rintro e9 W2 ⟨mb2, rfl, hown, hb2⟩
      exact hK _ _ ⟨mb2, true, b1, b2, b3, b4, b5, b6, b7, b8, b9, rfl, rfl, (hW.call hb2 hown)⟩
    · simp [Region.binds, Array.getD] at hi2
      obtain rfl := hi2
      refine wpOp_step rfl (fun K hK => ?_)
      unfold iv
      go_simp
      exact hK _ _ ⟨mb, b0, true, b2, b3, b4, b5, b6, b7, b8, b9, rfl, rfl, hW⟩
    · simp [Region.binds, Array.getD] at hi2
      obtain ⟨rfl, rfl⟩ := hi2
      refine wpOp_step rfl (fun K hK => ?_)
      obtain ⟨e1, -⟩ := blk_cell (k := 0) hW.2.1 rfl
      simp only [List.getElem_toArray, List.getElem_cons_zero] at e1
      unfold iv
      go_simp
      exact hK _ _ ⟨mb, b0, true, true, b3, b4, b5, b6, b7, b8, b9, rfl, rfl, hW⟩
    · simp [Region.binds, Array.getD] at hi2
      obtain ⟨rfl, rfl, rfl⟩ := hi2
      refine wpOp_step rfl (fun K hK => ?_)
      have hl := (rl_look (hW.2.2.2.1 rfl) m.k HK.out.1 HK.out.2).2
      rw [hr] at hl
      unfold iv
      go_simp
      exact hK _ _ ⟨mb, true, b1, true, true, b4, b5, b6, b7, b8, b9, rfl, rfl, hW⟩
    · simp [Region.binds, Array.getD] at hi2
      obtain ⟨rfl, rfl⟩ := hi2
      refine wpOp_step rfl (fun K hK => ?_)
      unfold iv
      go_simp
      exact hK _ _ ⟨mb, b0, b1, b2, true, true, b5, b6, b7, b8, b9, rfl, rfl, hW⟩
    · simp [Region.binds, Array.getD] at hi2
      repeat (first | (obtain ⟨rfl, hi2⟩ := hi2) | (obtain ⟨-, hi2⟩ := hi2))
      (first | subst hi2 | skip)
      refine wpOp_step rfl (fun K hK => ?_)
      unfold iv
      go_simp
      exact hK _ _ ⟨mb, true, b1, b2, b3, true, true, b6, b7, b8, b9, rfl, rfl, hW⟩
    · simp [Region.binds, Array.getD] at hi2
      repeat (first | (obtain ⟨rfl, hi2⟩ := hi2) | (obtain ⟨-, hi2⟩ := hi2))
      (first | subst hi2 | skip)
      refine wpOp_step rfl (fun K hK => ?_)
      obtain ⟨e1, -⟩ := blk_cell (k := 0) hW.2.1 rfl
      obtain ⟨e2, -⟩ := blk_cell (k := 1) hW.2.1 rfl
      obtain ⟨e3, -⟩ := blk_cell (k := 2) hW.2.1 rfl
      obtain ⟨e4, -⟩ := blk_cell (k := 3) hW.2.1 rfl
      simp only [List.getElem_toArray, List.getElem_cons_zero, List.getElem_cons_succ] at e1 e2 e3 e4
      unfold iv
      go_simp
      exact hK _ _ ⟨mb, b0, b1, b2, b3, b4, true, true, b7, b8, b9, rfl, rfl, hW⟩
    · simp [Region.binds, Array.getD] at hi2
      repeat (first | (obtain ⟨rfl, hi2⟩ := hi2) | (obtain ⟨-, hi2⟩ := hi2))
      (first | subst hi2 | skip)
      refine wpOp_step rfl (fun K hK => ?_)
      unfold iv
      go_simp
      refine (mvalid_any m HK.out HS.out _).mono ?_
      rintro e9 W2 ⟨rfl, hb2⟩
      exact hK _ _ ⟨mb, b0, b1, b2, b3, b4, true, true, true, b8, b9, rfl, rfl, (hW.below hb2)⟩
    · simp [Region.binds, Array.getD] at hi2
      repeat (first | (obtain ⟨rfl, hi2⟩ := hi2) | (obtain ⟨-, hi2⟩ := hi2))
      (first | subst hi2 | skip)
      refine wpOp_step rfl (fun K hK => ?_)
      unfold iv
      go_simp
      exact hK _ _ ⟨mb, b0, b1, b2, b3, b4, true, b6, true, true, b9, rfl, rfl, hW⟩
    · simp [Region.binds, Array.getD] at hi2
      repeat (first | (obtain ⟨rfl, hi2⟩ := hi2) | (obtain ⟨-, hi2⟩ := hi2))
      (first | subst hi2 | skip)
      refine wpOp_step rfl (fun K hK => ?_)
      unfold iv
      go_simp
      exact hK _ _ ⟨mb, true, true, true, true, true, true, true, true, true, true, rfl, rfl, hW⟩

def VEf (w0 : World) (m : Ms) (fv : Value) (room : Int) (M : Nat) (l : Array Bool) (a : Act) (W : World) : Prop := ∃ (mb : Nat) (b0 b1 b2 b3 b4 b5 b6 b7 b8 b9 : Bool), l = #[b0, b1, b2, b3, b4, b5, b6, b7, b8, b9] ∧
  a = { tmps := #[mv m, .pointer (some ⟨M, 0, none⟩), iw b9 (.bool false) (.bool false), iv b0 (.map (some mb)), iv b1 (.pointer (some ⟨M, 0, none⟩)), iv b2 (.int .i64 m.k), iv b3 (.agg #[fv, .int .i64 room, .bool false]), iv b4 (.bool false), iv b5 (.bool false), undef, undef, iv b8 (.bool false)], defers := [] } ∧ VW w0 m fv room false M mb 0 b0 false false W

set_option maxRecDepth 100000 in
set_option maxHeartbeats 6400000 in
theorem mverr_false (m : Ms) (hk : b64i m.k) (hs : m.s.size ≤ maxLen) (fv : Value) (room : Int) (hr : ruleOf m.k = .agg #[fv, .int .i64 room, .bool false]) (w : World) :
    Calls Tryd.prog 43 #[mv m] w fun e9 w' => e9 = .returned (.bool false) ∧ Below w.heap.size w w' := by
  have HK := Lib.hid hk
  have HS := Lib.hid hs
  clear hk hs
  go_enter Tryd.func43, Tryd.ntmps43
  go_wp2_with fail
  refine wp_region_inv (by kernel_rfl) (VEf w m fv room w.heap.size) ?h0 ?hd ?hs
  case h0 =>
    refine ⟨0, false, false, false, false, false, false, false, false, false, false, rfl, rfl, ?_, ?_, Nat.le_refl _, (fun h => by cases h), ?_⟩
    · exact ((Below.refl _ w).alloc (Nat.le_refl _) _).drew
    · exact blk_new w _
    · rw [if_neg (by decide)]
  case hd =>
    rintro l a W ⟨mb, b0, b1, b2, b3, b4, b5, b6, b7, b8, b9, rfl, rfl, hW⟩ hr9
    obtain rfl : b0 = true := by simpa [Region.binds, Array.getD] using List.filter_eq_nil_iff.1 hr9 0 (by simp)
    obtain rfl : b1 = true := by simpa [Region.binds, Array.getD] using List.filter_eq_nil_iff.1 hr9 1 (by simp)
    obtain rfl : b2 = true := by simpa [Region.binds, Array.getD] using List.filter_eq_nil_iff.1 hr9 2 (by simp)
    obtain rfl : b3 = true := by simpa [Region.binds, Array.getD] using List.filter_eq_nil_iff.1 hr9 3 (by simp)
    obtain rfl : b4 = true := by simpa [Region.binds, Array.getD] using List.filter_eq_nil_iff.1 hr9 4 (by simp)
    obtain rfl : b5 = true := by simpa [Region.binds, Array.getD] using List.filter_eq_nil_iff.1 hr9 5 (by simp)
    obtain rfl : b6 = true := by simpa [Region.binds, Array.getD] using List.filter_eq_nil_iff.1 hr9 6 (by simp)
    obtain rfl : b7 = true := by simpa [Region.binds, Array.getD] using List.filter_eq_nil_iff.1 hr9 7 (by simp)
    obtain rfl : b8 = true := by simpa [Region.binds, Array.getD] using List.filter_eq_nil_iff.1 hr9 8 (by simp)
    obtain rfl : b9 = true := by simpa [Region.binds, Array.getD] using List.filter_eq_nil_iff.1 hr9 9 (by simp)
    unfold iv iw
    clear hr9
    have hB := hW.1
    clear hW
    go_wp2
    go_ret
    exact ⟨rfl, hB⟩
  case hs =>
    rintro l a W i ⟨mb, b0, b1, b2, b3, b4, b5, b6, b7, b8, b9, rfl, rfl, hW⟩ hi
    have hi1 := (List.mem_filter.1 hi).1
    have hi2 := (List.mem_filter.1 hi).2
    clear hi
    rw [List.mem_range] at hi1
    simp only [List.size_toArray, List.length_cons, List.length_nil] at hi1
    rcases (by omega : i = 0 ∨ i = 1 ∨ i = 2 ∨ i = 3 ∨ i = 4 ∨ i = 5 ∨ i = 6 ∨ i = 7 ∨ i = 8 ∨ i = 9) with rfl | rfl | rfl | rfl | rfl | rfl | rfl | rfl | rfl | rfl
    · simp [Region.binds, Array.getD] at hi2
      obtain rfl := hi2
      refine wpOp_step rfl (fun K hK => ?_)
      unfold iv
      go_simp
      refine (rules_any _).mono ?_
      rintro e9 W2 ⟨mb2, rfl, hown, hb2⟩
      exact hK _ _ ⟨mb2, true, b1, b2, b3, b4, b5, b6, b7, b8, b9, rfl, rfl, (hW.call hb2 hown)⟩
    · simp [Region.binds, Array.getD] at hi2
      obtain rfl := hi2
      refine wpOp_step rfl (fun K hK => ?_)
      unfold iv
      go_simp
      exact hK _ _ ⟨mb, b0, true, b2, b3, b4, b5, b6, b7, b8, b9, rfl, rfl, hW⟩
    · simp [Region.binds, Array.getD] at hi2
      obtain ⟨rfl, rfl⟩ := hi2
      refine wpOp_step rfl (fun K hK => ?_)
      obtain ⟨e1, -⟩ := blk_cell (k := 0) hW.2.1 rfl
      simp only [List.getElem_toArray, List.getElem_cons_zero] at e1
      unfold iv
      go_simp
      exact hK _ _ ⟨mb, b0, true, true, b3, b4, b5, b6, b7, b8, b9, rfl, rfl, hW⟩
    · simp [Region.binds, Array.getD] at hi2
      obtain ⟨rfl, rfl, rfl⟩ := hi2
      refine wpOp_step rfl (fun K hK => ?_)
      have hl := (rl_look (hW.2.2.2.1 rfl) m.k HK.out.1 HK.out.2).2
      rw [hr] at hl
      unfold iv
      go_simp
      exact hK _ _ ⟨mb, true, b1, true, true, b4, b5, b6, b7, b8, b9, rfl, rfl, hW⟩
    · simp [Region.binds, Array.getD] at hi2
      obtain ⟨rfl, rfl⟩ := hi2
      refine wpOp_step rfl (fun K hK => ?_)
      unfold iv
      go_simp
      exact hK _ _ ⟨mb, b0, b1, b2, true, true, b5, b6, b7, b8, b9, rfl, rfl, hW⟩
    · simp [Region.binds, Array.getD] at hi2
      repeat (first | (obtain ⟨rfl, hi2⟩ := hi2) | (obtain ⟨-, hi2⟩ := hi2))
      (first | subst hi2 | skip)
      refine wpOp_step rfl (fun K hK => ?_)
      unfold iv
      go_simp
      exact hK _ _ ⟨mb, true, b1, b2, b3, true, true, b6, b7, b8, b9, rfl, rfl, hW⟩
    · simp [Region.binds, Array.getD] at hi2
      repeat (first | (obtain ⟨rfl, hi2⟩ := hi2) | (obtain ⟨-, hi2⟩ := hi2))
      (first | subst hi2 | skip)
      refine wpOp_step rfl (fun K hK => ?_)
      unfold iv
      go_simp
      exact hK _ _ ⟨mb, b0, b1, b2, b3, b4, true, true, b7, b8, b9, rfl, rfl, hW⟩
    · simp [Region.binds, Array.getD] at hi2
      repeat (first | (obtain ⟨rfl, hi2⟩ := hi2) | (obtain ⟨-, hi2⟩ := hi2))
      (first | subst hi2 | skip)
      refine wpOp_step rfl (fun K hK => ?_)
      unfold iv
      go_simp
      exact hK _ _ ⟨mb, b0, b1, b2, b3, b4, true, true, true, b8, b9, rfl, rfl, hW⟩
    · simp [Region.binds, Array.getD] at hi2
      repeat (first | (obtain ⟨rfl, hi2⟩ := hi2) | (obtain ⟨-, hi2⟩ := hi2))
      (first | subst hi2 | skip)
      refine wpOp_step rfl (fun K hK => ?_)
      unfold iv
      go_simp
      exact hK _ _ ⟨mb, b0, b1, b2, b3, b4, true, b6, true, true, b9, rfl, rfl, hW⟩
    · simp [Region.binds, Array.getD] at hi2
      repeat (first | (obtain ⟨rfl, hi2⟩ := hi2) | (obtain ⟨-, hi2⟩ := hi2))
      (first | subst hi2 | skip)
      refine wpOp_step rfl (fun K hK => ?_)
      unfold iv
      go_simp
      exact hK _ _ ⟨mb, true, true, true, true, true, true, true, true, true, true, rfl, rfl, hW⟩

theorem errK_rule (k : Int) : ∃ fv room, ruleOf k = .agg #[fv, .int .i64 room, .bool (decide (errK k))] := by
  obtain rfl | rfl | rfl | rfl | rfl | hn := kinds k
  · exact ⟨_, _, rfl⟩
  · exact ⟨_, _, rfl⟩
  · exact ⟨_, _, rfl⟩
  · exact ⟨_, _, rfl⟩
  · exact ⟨_, _, rfl⟩
  · rw [ruleOf_n hn, show decide (errK k) = false from decide_eq_false (by unfold errK; omega)]
    exact ⟨_, _, rfl⟩
/-- icmp.validError -/
theorem mverr_any (m : Ms) (hk : b64i m.k) (hs : m.s.size ≤ maxLen) (w : World) :
    Calls Tryd.prog 43 #[mv m] w fun e w' => e = .returned (.bool (decide (okE m))) ∧ Below w.heap.size w w' := by
  obtain ⟨fv, room, hr⟩ := errK_rule m.k
  by_cases he : errK m.k
  · rw [decide_eq_true he] at hr
    rw [show decide (okE m) = decide (okM m) from decide_eq_decide.2 ⟨fun h => h.2, fun h => ⟨he, h⟩⟩]
    exact mverr_true m hk hs fv room hr w
  · rw [decide_eq_false he] at hr
    rw [show decide (okE m) = false from decide_eq_false (fun h => he h.1)]
    exact mverr_false m hk hs fv room hr w
end
section
attribute [local go_sem] Oper.semAt_some
open Go.RowKit Go.Maps
set_option linter.unusedVariables false

/-- a string's first byte -/
def fb (s : ByteArray) : Int := ((s.data.toList.headD 0).toNat : Int)
theorem fb_bd (s : ByteArray) : 0 ≤ fb s ∧ fb s < 256 := by
  have := (s.data.toList.headD 0).toNat_lt
  unfold fb; omega
/-- the payload begins as an error message does -/
def crE (p : Pk) : Prop := p.pr = 1 ∧ 0 < p.s.size ∧ errK (fb p.s)
instance (p : Pk) : Decidable (crE p) := by unfold crE; infer_instance
def PW (w0 : World) (p : Pk) (M mb : Nat) (b9 : Bool) (W : World) : Prop :=
  Below w0.heap.size w0 W ∧ W.heap[M]? = some (po p) ∧ (b9 = true → W.ownsMap Tryd.prog 3 rawR mb 5 rulesD)
theorem PW.call {w0 : World} {p : Pk} {M mb mb' : Nat} {b9 : Bool} {W W' : World} (h : PW w0 p M mb b9 W) (hb : Below W.heap.size W W') (ho : W'.ownsMap Tryd.prog 3 rawR mb' 5 rulesD) : PW w0 p M mb' true W' :=
  ⟨h.1.trans (hb.mono h.1.size), blk_below h.2.1 hb (blk_lt h.2.1), fun _ => ho⟩

def PI (w0 : World) (p : Pk) (fv : Value) (room : Int) (M : Nat) (l : Array Bool) (a : Act) (W : World) : Prop := ∃ (mb : Nat) (b0 b1 b2 b3 b4 b5 b6 b7 b8 b9 b10 b11 b12 b13 b14 b15 b16 b17 : Bool), l = #[b0, b1, b2, b3, b4, b5, b6, b7, b8, b9, b10, b11, b12, b13, b14, b15, b16, b17] ∧
  a = { tmps := #[pv p, .pointer (some ⟨M, 0, none⟩), iw b17 (.bool (decide (errK (fb p.s)))) (.bool false), iv b0 (.pointer (some ⟨M, 2, none⟩)), iv b1 (.int .i64 p.pr), iv b2 (.bool true), iv b3 (.bool true), iv b4 (.pointer (some ⟨M, 8, none⟩)), iv b5 (.string p.s), iv b6 (.bool true), iv b7 (.bool true), iv b8 (.bool true), iv b9 (.map (some mb)), iv b10 (.pointer (some ⟨M, 8, none⟩)), iv b11 (.string p.s), iv b12 (.int .u8 (fb p.s)), iv b13 (.int .i64 (fb p.s)), iv b14 (.agg #[fv, .int .i64 room, .bool (decide (errK (fb p.s)))]), iv b15 (.bool (decide (errK (fb p.s)))), iv b16 (.bool (decide (errK (fb p.s))))], defers := [] } ∧ PW w0 p M mb b9 W

set_option maxRecDepth 100000 in
set_option maxHeartbeats 6400000 in
theorem mcarries_yes (p : Pk) (hs : p.s.size ≤ maxLen) (hp : p.pr = 1) (hn : 0 < p.s.size) (fv : Value) (room : Int) (hr : ruleOf (fb p.s) = .agg #[fv, .int .i64 room, .bool (decide (errK (fb p.s)))]) (w : World) :
    Calls Tryd.prog 50 #[pv p] w fun e9 w' => e9 = .returned (.bool (decide (errK (fb p.s)))) ∧ Below w.heap.size w w' := by
  have hfb := fb_bd p.s
  have HFB := Lib.hid (show -9223372036854775808 ≤ fb p.s ∧ fb p.s ≤ 9223372036854775807 by omega)
  have HP := Lib.hid hp
  clear hp
  have hlen : 0 < p.s.data.toList.length := by rw [size_toList]; exact hn
  have HEM := Lib.hid (show p.s.toList.isEmpty = false by
    rw [Lib.toList_data]
    cases hl : p.s.data.toList with
    | nil => rw [hl] at hlen; exact absurd hlen (by decide)
    | cons x xs => rfl)
  have HIX := Lib.hid (show ((p.s[0]'hn).toNat : Int) = fb p.s by
    unfold fb
    congr 2
    show p.s.data[0] = _
    rw [← Array.getElem_toList]
    rw [List.headD_eq_head?_getD, List.head?_eq_getElem?, List.getElem?_eq_getElem hlen]
    rfl)
  have HCV := Lib.hid (show IntKind.i64.wrap (fb p.s) = fb p.s from IntWalk.i64_in _ (by omega))
  have hni : (0 : Int) < (p.s.size : Int) := by omega
  unfold maxLen at hs
  go_enter Tryd.func50, Tryd.ntmps50
  go_wp2_with fail
  refine wp_region_inv (by kernel_rfl) (PI w p fv room w.heap.size) ?h0 ?hd ?hs
  case h0 =>
    refine ⟨0, false, false, false, false, false, false, false, false, false, false, false, false, false, false, false, false, false, false, rfl, rfl, ?_, ?_, (fun h => by cases h)⟩
    · exact ((Below.refl _ w).alloc (Nat.le_refl _) _).drew
    · exact blk_new w _
  case hd =>
    rintro l a W ⟨mb, b0, b1, b2, b3, b4, b5, b6, b7, b8, b9, b10, b11, b12, b13, b14, b15, b16, b17, rfl, rfl, hW⟩ hr9
    obtain rfl : b0 = true := by simpa [Region.binds, Array.getD] using List.filter_eq_nil_iff.1 hr9 0 (by simp)
    obtain rfl : b1 = true := by simpa [Region.binds, Array.getD] using List.filter_eq_nil_iff.1 hr9 1 (by simp)
    obtain rfl : b2 = true := by simpa [Region.binds, Array.getD] using List.filter_eq_nil_iff.1 hr9 2 (by simp)
    obtain rfl : b3 = true := by simpa [Region.binds, Array.getD] using List.filter_eq_nil_iff.1 hr9 3 (by simp)
    obtain rfl : b4 = true := by simpa [Region.binds, Array.getD] using List.filter_eq_nil_iff.1 hr9 4 (by simp)
    obtain rfl : b5 = true := by simpa [Region.binds, Array.getD] using List.filter_eq_nil_iff.1 hr9 5 (by simp)
    obtain rfl : b6 = true := by simpa [Region.binds, Array.getD] using List.filter_eq_nil_iff.1 hr9 6 (by simp)
    obtain rfl : b7 = true := by simpa [Region.binds, Array.getD] using List.filter_eq_nil_iff.1 hr9 7 (by simp)
    obtain rfl : b8 = true := by simpa [Region.binds, Array.getD] using List.filter_eq_nil_iff.1 hr9 8 (by simp)
    obtain rfl : b9 = true := by simpa [Region.binds, Array.getD] using List.filter_eq_nil_iff.1 hr9 9 (by simp)
    obtain rfl : b10 = true := by simpa [Region.binds, Array.getD] using List.filter_eq_nil_iff.1 hr9 10 (by simp)
    obtain rfl : b11 = true := by simpa [Region.binds, Array.getD] using List.filter_eq_nil_iff.1 hr9 11 (by simp)
    obtain rfl : b12 = true := by simpa [Region.binds, Array.getD] using List.filter_eq_nil_iff.1 hr9 12 (by simp)
    obtain rfl : b13 = true := by simpa [Region.binds, Array.getD] using List.filter_eq_nil_iff.1 hr9 13 (by simp)
    obtain rfl : b14 = true := by simpa [Region.binds, Array.getD] using List.filter_eq_nil_iff.1 hr9 14 (by simp)
    obtain rfl : b15 = true := by simpa [Region.binds, Array.getD] using List.filter_eq_nil_iff.1 hr9 15 (by simp)
    obtain rfl : b16 = true := by simpa [Region.binds, Array.getD] using List.filter_eq_nil_iff.1 hr9 16 (by simp)
    obtain rfl : b17 = true := by simpa [Region.binds, Array.getD] using List.filter_eq_nil_iff.1 hr9 17 (by simp)
    unfold iv iw
    clear hr9
    have hB := hW.1
    clear hW
    go_wp2
    go_ret
    exact ⟨rfl, hB⟩
  case hs =>
    rintro l a W i ⟨mb, b0, b1, b2, b3, b4, b5, b6, b7, b8, b9, b10, b11, b12, b13, b14, b15, b16, b17, rfl, rfl, hW⟩ hi
    have hi1 := (List.mem_filter.1 hi).1
    have hi2 := (List.mem_filter.1 hi).2
    clear hi
    rw [List.mem_range] at hi1
    simp only [List.size_toArray, List.length_cons, List.length_nil] at hi1
    rcases (by omega : i = 0 ∨ i = 1 ∨ i = 2 ∨ i = 3 ∨ i = 4 ∨ i = 5 ∨ i = 6 ∨ i = 7 ∨ i = 8 ∨ i = 9 ∨ i = 10 ∨ i = 11 ∨ i = 12 ∨ i = 13 ∨ i = 14 ∨ i = 15 ∨ i = 16 ∨ i = 17) with rfl | rfl | rfl | rfl | rfl | rfl | rfl | rfl | rfl | rfl | rfl | rfl | rfl | rfl | rfl | rfl | rfl | rfl
    · simp [Region.binds, Array.getD] at hi2
      obtain rfl := hi2
      refine wpOp_step rfl (fun K hK => ?_)
      unfold iv
      go_simp
      exact hK _ _ ⟨mb, true, b1, b2, b3, b4, b5, b6, b7, b8, b9, b10, b11, b12, b13, b14, b15, b16, b17, rfl, rfl, hW⟩
    · simp [Region.binds, Array.getD] at hi2
      obtain ⟨rfl, rfl⟩ := hi2
      refine wpOp_step rfl (fun K hK => ?_)
      obtain ⟨e1, -⟩ := blk_cell (k := 2) hW.2.1 rfl
      simp only [List.getElem_toArray, List.getElem_cons_zero, List.getElem_cons_succ] at e1
      unfold iv
      go_simp
      exact hK _ _ ⟨mb, true, true, b2, b3, b4, b5, b6, b7, b8, b9, b10, b11, b12, b13, b14, b15, b16, b17, rfl, rfl, hW⟩
    · simp [Region.binds, Array.getD] at hi2
      obtain ⟨rfl, rfl⟩ := hi2
      refine wpOp_step rfl (fun K hK => ?_)
      have hp1 : (p.pr == 1) = true := by rw [HP.out]; rfl
      unfold iv
      go_simp
      exact hK _ _ ⟨mb, b0, true, true, b3, b4, b5, b6, b7, b8, b9, b10, b11, b12, b13, b14, b15, b16, b17, rfl, rfl, hW⟩
    · simp [Region.binds, Array.getD] at hi2
      obtain ⟨rfl, rfl⟩ := hi2
      refine wpOp_step rfl (fun K hK => ?_)
      unfold iv
      go_simp
      exact hK _ _ ⟨mb, b0, b1, true, true, b4, b5, b6, b7, b8, b9, b10, b11, b12, b13, b14, b15, b16, b17, rfl, rfl, hW⟩
    · simp [Region.binds, Array.getD] at hi2
      obtain ⟨rfl, rfl⟩ := hi2
      refine wpOp_step rfl (fun K hK => ?_)
      unfold iv
      go_simp
      exact hK _ _ ⟨mb, b0, b1, b2, true, true, b5, b6, b7, b8, b9, b10, b11, b12, b13, b14, b15, b16, b17, rfl, rfl, hW⟩
    · simp [Region.binds, Array.getD] at hi2
      repeat (first | (obtain ⟨rfl, hi2⟩ := hi2) | (obtain ⟨-, hi2⟩ := hi2))
      (first | subst hi2 | skip)
      refine wpOp_step rfl (fun K hK => ?_)
      obtain ⟨e1, -⟩ := blk_cell (k := 8) hW.2.1 rfl
      simp only [List.getElem_toArray, List.getElem_cons_zero, List.getElem_cons_succ] at e1
      unfold iv
      go_simp
      exact hK _ _ ⟨mb, b0, b1, b2, true, true, true, b6, b7, b8, b9, b10, b11, b12, b13, b14, b15, b16, b17, rfl, rfl, hW⟩
    · simp [Region.binds, Array.getD] at hi2
      repeat (first | (obtain ⟨rfl, hi2⟩ := hi2) | (obtain ⟨-, hi2⟩ := hi2))
      (first | subst hi2 | skip)
      refine wpOp_step rfl (fun K hK => ?_)
      have hem := HEM.out
      unfold iv
      go_simp
      exact hK _ _ ⟨mb, b0, b1, b2, true, b4, true, true, b7, b8, b9, b10, b11, b12, b13, b14, b15, b16, b17, rfl, rfl, hW⟩
    · simp [Region.binds, Array.getD] at hi2
      repeat (first | (obtain ⟨rfl, hi2⟩ := hi2) | (obtain ⟨-, hi2⟩ := hi2))
      (first | subst hi2 | skip)
      refine wpOp_step rfl (fun K hK => ?_)
      unfold iv
      go_simp
      exact hK _ _ ⟨mb, b0, b1, b2, true, b4, b5, true, true, b8, b9, b10, b11, b12, b13, b14, b15, b16, b17, rfl, rfl, hW⟩
    · simp [Region.binds, Array.getD] at hi2
      repeat (first | (obtain ⟨rfl, hi2⟩ := hi2) | (obtain ⟨-, hi2⟩ := hi2))
      (first | subst hi2 | skip)
      refine wpOp_step rfl (fun K hK => ?_)
      unfold iv
      go_simp
      exact hK _ _ ⟨mb, b0, b1, b2, true, b4, b5, b6, true, true, b9, b10, b11, b12, b13, b14, b15, b16, b17, rfl, rfl, hW⟩
    · simp [Region.binds, Array.getD] at hi2
      repeat (first | (obtain ⟨rfl, hi2⟩ := hi2) | (obtain ⟨-, hi2⟩ := hi2))
      (first | subst hi2 | skip)
      refine wpOp_step rfl (fun K hK => ?_)
      unfold iv
      go_simp
      refine (rules_any _).mono ?_
      rintro e9 W2 ⟨mb2, rfl, hown, hb2⟩
      exact hK _ _ ⟨mb2, b0, b1, b2, b3, b4, b5, b6, b7, true, true, b10, b11, b12, b13, b14, b15, b16, b17, rfl, rfl, (hW.call hb2 hown)⟩
    · simp [Region.binds, Array.getD] at hi2
      repeat (first | (obtain ⟨rfl, hi2⟩ := hi2) | (obtain ⟨-, hi2⟩ := hi2))
      (first | subst hi2 | skip)
      refine wpOp_step rfl (fun K hK => ?_)
      unfold iv
      go_simp
      exact hK _ _ ⟨mb, b0, b1, b2, b3, b4, b5, b6, b7, true, b9, true, b11, b12, b13, b14, b15, b16, b17, rfl, rfl, hW⟩
    · simp [Region.binds, Array.getD] at hi2
      repeat (first | (obtain ⟨rfl, hi2⟩ := hi2) | (obtain ⟨-, hi2⟩ := hi2))
      (first | subst hi2 | skip)
      refine wpOp_step rfl (fun K hK => ?_)
      obtain ⟨e1, -⟩ := blk_cell (k := 8) hW.2.1 rfl
      simp only [List.getElem_toArray, List.getElem_cons_zero, List.getElem_cons_succ] at e1
      unfold iv
      go_simp
      exact hK _ _ ⟨mb, b0, b1, b2, b3, b4, b5, b6, b7, true, b9, true, true, b12, b13, b14, b15, b16, b17, rfl, rfl, hW⟩
    · simp [Region.binds, Array.getD] at hi2
      repeat (first | (obtain ⟨rfl, hi2⟩ := hi2) | (obtain ⟨-, hi2⟩ := hi2))
      (first | subst hi2 | skip)
      refine wpOp_step rfl (fun K hK => ?_)
      have hix := HIX.out
      unfold iv
      go_simp
      exact hK _ _ ⟨mb, b0, b1, b2, b3, b4, b5, b6, b7, true, b9, b10, true, true, b13, b14, b15, b16, b17, rfl, rfl, hW⟩
    · simp [Region.binds, Array.getD] at hi2
      repeat (first | (obtain ⟨rfl, hi2⟩ := hi2) | (obtain ⟨-, hi2⟩ := hi2))
      (first | subst hi2 | skip)
      refine wpOp_step rfl (fun K hK => ?_)
      have hcv := HCV.out
      unfold iv
      go_simp
      exact hK _ _ ⟨mb, b0, b1, b2, b3, b4, b5, b6, b7, true, b9, b10, b11, true, true, b14, b15, b16, b17, rfl, rfl, hW⟩
    · simp [Region.binds, Array.getD] at hi2
      repeat (first | (obtain ⟨rfl, hi2⟩ := hi2) | (obtain ⟨-, hi2⟩ := hi2))
      (first | subst hi2 | skip)
      refine wpOp_step rfl (fun K hK => ?_)
      have hl := (rl_look (hW.2.2 rfl) (fb p.s) HFB.out.1 HFB.out.2).2
      rw [hr] at hl
      unfold iv
      go_simp
      exact hK _ _ ⟨mb, b0, b1, b2, b3, b4, b5, b6, b7, true, true, b10, b11, b12, true, true, b15, b16, b17, rfl, rfl, hW⟩
    · simp [Region.binds, Array.getD] at hi2
      repeat (first | (obtain ⟨rfl, hi2⟩ := hi2) | (obtain ⟨-, hi2⟩ := hi2))
      (first | subst hi2 | skip)
      refine wpOp_step rfl (fun K hK => ?_)
      unfold iv
      go_simp
      exact hK _ _ ⟨mb, b0, b1, b2, b3, b4, b5, b6, b7, true, b9, b10, b11, b12, b13, true, true, b16, b17, rfl, rfl, hW⟩
    · simp [Region.binds, Array.getD] at hi2
      repeat (first | (obtain ⟨rfl, hi2⟩ := hi2) | (obtain ⟨-, hi2⟩ := hi2))
      (first | subst hi2 | skip)
      refine wpOp_step rfl (fun K hK => ?_)
      unfold iv
      go_simp
      exact hK _ _ ⟨mb, b0, b1, b2, b3, b4, b5, b6, b7, true, b9, b10, b11, b12, b13, b14, true, true, b17, rfl, rfl, hW⟩
    · simp [Region.binds, Array.getD] at hi2
      repeat (first | (obtain ⟨rfl, hi2⟩ := hi2) | (obtain ⟨-, hi2⟩ := hi2))
      (first | subst hi2 | skip)
      refine wpOp_step rfl (fun K hK => ?_)
      unfold iv
      go_simp
      exact hK _ _ ⟨mb, true, true, true, true, true, true, true, true, true, true, true, true, true, true, true, true, true, true, rfl, rfl, hW⟩

set_option maxRecDepth 100000 in
set_option maxHeartbeats 6400000 in
theorem mcarries_pr (p : Pk) (hp : p.pr ≠ 1) (w : World) :
    Calls Tryd.prog 50 #[pv p] w fun e9 w' => e9 = .returned (.bool false) ∧ Below w.heap.size w w' := by
  have hp1 : (p.pr == 1) = false := by simpa using hp
  have c2 := (blk_cell (k := 2) (blk_new w (po p)) rfl).1
  have c8 := (blk_cell (k := 8) (blk_new w (po p)) rfl).1
  simp only [List.getElem_toArray, List.getElem_cons_zero, List.getElem_cons_succ] at c2 c8
  have hb0 : Below w.heap.size w (w.alloc (po p)) := (Below.refl _ w).alloc (Nat.le_refl _) _
  go_enter Tryd.func50, Tryd.ntmps50
  go_wp2_with fail
  refine wp_region_noPanic ?_
  refine wp_region_held_drew (S := fun w' => w'.cell? ⟨w.heap.size, 2, none⟩ = some (.int .i64 p.pr) ∧ w'.cell? ⟨w.heap.size, 8, none⟩ = some (.string p.s) ∧ Below w.heap.size w w') (by kernel_rfl) (⟨c2, c8, hb0.drew⟩) (fun hHeld => ?_)
  first
    | (refine wpAnyH_take (i := 0) (oi := ⟨some 3, _, _, _, _, _⟩) (v := ?v0) rfl (by kernel_rfl) (by kernel_rfl) (by kernel_rfl) (fun _ _ _ h => h) (Or.inl ⟨by rfl, ?hy0⟩) hHeld ?rr0
       case hy0 => (intro w hSw; (try dsimp only at hSw); go_simp; try with_reducible rfl))
    | (refine wpAnyH_take (i := 0) (oi := ⟨some 3, _, _, _, _, _⟩) (v := undef) rfl (by kernel_rfl) (by kernel_rfl) (by kernel_rfl) (fun _ _ _ h => h) (Or.inr ⟨by rfl, rfl⟩) hHeld ?rr0)
  try simp only [Act.put, List.setIfInBounds_toArray, List.set_cons_zero, List.set_cons_succ]
  first
    | (refine wpAnyH_take (i := 1) (oi := ⟨some 4, _, _, _, _, _⟩) (v := ?v1) rfl (by kernel_rfl) (by kernel_rfl) (by kernel_rfl) (fun _ _ _ h => h) (Or.inl ⟨by rfl, ?hy1⟩) hHeld ?rr1
       case hy1 => (intro w hSw; (try dsimp only at hSw); go_simp; try with_reducible rfl))
    | (refine wpAnyH_take (i := 1) (oi := ⟨some 4, _, _, _, _, _⟩) (v := undef) rfl (by kernel_rfl) (by kernel_rfl) (by kernel_rfl) (fun _ _ _ h => h) (Or.inr ⟨by rfl, rfl⟩) hHeld ?rr1)
  try simp only [Act.put, List.setIfInBounds_toArray, List.set_cons_zero, List.set_cons_succ]
  first
    | (refine wpAnyH_take (i := 2) (oi := ⟨some 5, _, _, _, _, _⟩) (v := ?v2) rfl (by kernel_rfl) (by kernel_rfl) (by kernel_rfl) (fun _ _ _ h => h) (Or.inl ⟨by rfl, ?hy2⟩) hHeld ?rr2
       case hy2 => (intro w hSw; (try dsimp only at hSw); go_simp; try with_reducible rfl))
    | (refine wpAnyH_take (i := 2) (oi := ⟨some 5, _, _, _, _, _⟩) (v := undef) rfl (by kernel_rfl) (by kernel_rfl) (by kernel_rfl) (fun _ _ _ h => h) (Or.inr ⟨by rfl, rfl⟩) hHeld ?rr2)
  try simp only [Act.put, List.setIfInBounds_toArray, List.set_cons_zero, List.set_cons_succ]
  first
    | (refine wpAnyH_take (i := 3) (oi := ⟨some 6, _, _, _, _, _⟩) (v := ?v3) rfl (by kernel_rfl) (by kernel_rfl) (by kernel_rfl) (fun _ _ _ h => h) (Or.inl ⟨by rfl, ?hy3⟩) hHeld ?rr3
       case hy3 => (intro w hSw; (try dsimp only at hSw); go_simp; try with_reducible rfl))
    | (refine wpAnyH_take (i := 3) (oi := ⟨some 6, _, _, _, _, _⟩) (v := undef) rfl (by kernel_rfl) (by kernel_rfl) (by kernel_rfl) (fun _ _ _ h => h) (Or.inr ⟨by rfl, rfl⟩) hHeld ?rr3)
  try simp only [Act.put, List.setIfInBounds_toArray, List.set_cons_zero, List.set_cons_succ]
  first
    | (refine wpAnyH_take (i := 4) (oi := ⟨some 7, _, _, _, _, _⟩) (v := ?v4) rfl (by kernel_rfl) (by kernel_rfl) (by kernel_rfl) (fun _ _ _ h => h) (Or.inl ⟨by rfl, ?hy4⟩) hHeld ?rr4
       case hy4 => (intro w hSw; (try dsimp only at hSw); go_simp; try with_reducible rfl))
    | (refine wpAnyH_take (i := 4) (oi := ⟨some 7, _, _, _, _, _⟩) (v := undef) rfl (by kernel_rfl) (by kernel_rfl) (by kernel_rfl) (fun _ _ _ h => h) (Or.inr ⟨by rfl, rfl⟩) hHeld ?rr4)
  try simp only [Act.put, List.setIfInBounds_toArray, List.set_cons_zero, List.set_cons_succ]
  first
    | (refine wpAnyH_take (i := 5) (oi := ⟨some 8, _, _, _, _, _⟩) (v := ?v5) rfl (by kernel_rfl) (by kernel_rfl) (by kernel_rfl) (fun _ _ _ h => h) (Or.inl ⟨by rfl, ?hy5⟩) hHeld ?rr5
       case hy5 => (intro w hSw; (try dsimp only at hSw); go_simp; try with_reducible rfl))
    | (refine wpAnyH_take (i := 5) (oi := ⟨some 8, _, _, _, _, _⟩) (v := undef) rfl (by kernel_rfl) (by kernel_rfl) (by kernel_rfl) (fun _ _ _ h => h) (Or.inr ⟨by rfl, rfl⟩) hHeld ?rr5)
  try simp only [Act.put, List.setIfInBounds_toArray, List.set_cons_zero, List.set_cons_succ]
  first
    | (refine wpAnyH_take (i := 6) (oi := ⟨some 9, _, _, _, _, _⟩) (v := ?v6) rfl (by kernel_rfl) (by kernel_rfl) (by kernel_rfl) (fun _ _ _ h => h) (Or.inl ⟨by rfl, ?hy6⟩) hHeld ?rr6
       case hy6 => (intro w hSw; (try dsimp only at hSw); go_simp; try with_reducible rfl))
    | (refine wpAnyH_take (i := 6) (oi := ⟨some 9, _, _, _, _, _⟩) (v := undef) rfl (by kernel_rfl) (by kernel_rfl) (by kernel_rfl) (fun _ _ _ h => h) (Or.inr ⟨by rfl, rfl⟩) hHeld ?rr6)
  try simp only [Act.put, List.setIfInBounds_toArray, List.set_cons_zero, List.set_cons_succ]
  first
    | (refine wpAnyH_take (i := 7) (oi := ⟨some 10, _, _, _, _, _⟩) (v := ?v7) rfl (by kernel_rfl) (by kernel_rfl) (by kernel_rfl) (fun _ _ _ h => h) (Or.inl ⟨by rfl, ?hy7⟩) hHeld ?rr7
       case hy7 => (intro w hSw; (try dsimp only at hSw); go_simp; try with_reducible rfl))
    | (refine wpAnyH_take (i := 7) (oi := ⟨some 10, _, _, _, _, _⟩) (v := undef) rfl (by kernel_rfl) (by kernel_rfl) (by kernel_rfl) (fun _ _ _ h => h) (Or.inr ⟨by rfl, rfl⟩) hHeld ?rr7)
  try simp only [Act.put, List.setIfInBounds_toArray, List.set_cons_zero, List.set_cons_succ]
  first
    | (refine wpAnyH_take (i := 8) (oi := ⟨some 11, _, _, _, _, _⟩) (v := ?v8) rfl (by kernel_rfl) (by kernel_rfl) (by kernel_rfl) (fun _ _ _ h => h) (Or.inl ⟨by rfl, ?hy8⟩) hHeld ?rr8
       case hy8 => (intro w hSw; (try dsimp only at hSw); go_simp; try with_reducible rfl))
    | (refine wpAnyH_take (i := 8) (oi := ⟨some 11, _, _, _, _, _⟩) (v := undef) rfl (by kernel_rfl) (by kernel_rfl) (by kernel_rfl) (fun _ _ _ h => h) (Or.inr ⟨by rfl, rfl⟩) hHeld ?rr8)
  try simp only [Act.put, List.setIfInBounds_toArray, List.set_cons_zero, List.set_cons_succ]
  first
    | (refine wpAnyH_take (i := 9) (oi := ⟨some 12, _, _, _, _, _⟩) (v := ?v9) rfl (by kernel_rfl) (by kernel_rfl) (by kernel_rfl) (fun _ _ _ h => h) (Or.inl ⟨by rfl, ?hy9⟩) hHeld ?rr9
       case hy9 => (intro w hSw; (try dsimp only at hSw); go_simp; try with_reducible rfl))
    | (refine wpAnyH_take (i := 9) (oi := ⟨some 12, _, _, _, _, _⟩) (v := undef) rfl (by kernel_rfl) (by kernel_rfl) (by kernel_rfl) (fun _ _ _ h => h) (Or.inr ⟨by rfl, rfl⟩) hHeld ?rr9)
  try simp only [Act.put, List.setIfInBounds_toArray, List.set_cons_zero, List.set_cons_succ]
  first
    | (refine wpAnyH_take (i := 10) (oi := ⟨some 13, _, _, _, _, _⟩) (v := ?v10) rfl (by kernel_rfl) (by kernel_rfl) (by kernel_rfl) (fun _ _ _ h => h) (Or.inl ⟨by rfl, ?hy10⟩) hHeld ?rr10
       case hy10 => (intro w hSw; (try dsimp only at hSw); go_simp; try with_reducible rfl))
    | (refine wpAnyH_take (i := 10) (oi := ⟨some 13, _, _, _, _, _⟩) (v := undef) rfl (by kernel_rfl) (by kernel_rfl) (by kernel_rfl) (fun _ _ _ h => h) (Or.inr ⟨by rfl, rfl⟩) hHeld ?rr10)
  try simp only [Act.put, List.setIfInBounds_toArray, List.set_cons_zero, List.set_cons_succ]
  first
    | (refine wpAnyH_take (i := 11) (oi := ⟨some 14, _, _, _, _, _⟩) (v := ?v11) rfl (by kernel_rfl) (by kernel_rfl) (by kernel_rfl) (fun _ _ _ h => h) (Or.inl ⟨by rfl, ?hy11⟩) hHeld ?rr11
       case hy11 => (intro w hSw; (try dsimp only at hSw); go_simp; try with_reducible rfl))
    | (refine wpAnyH_take (i := 11) (oi := ⟨some 14, _, _, _, _, _⟩) (v := undef) rfl (by kernel_rfl) (by kernel_rfl) (by kernel_rfl) (fun _ _ _ h => h) (Or.inr ⟨by rfl, rfl⟩) hHeld ?rr11)
  try simp only [Act.put, List.setIfInBounds_toArray, List.set_cons_zero, List.set_cons_succ]
  first
    | (refine wpAnyH_take (i := 12) (oi := ⟨some 15, _, _, _, _, _⟩) (v := ?v12) rfl (by kernel_rfl) (by kernel_rfl) (by kernel_rfl) (fun _ _ _ h => h) (Or.inl ⟨by rfl, ?hy12⟩) hHeld ?rr12
       case hy12 => (intro w hSw; (try dsimp only at hSw); go_simp; try with_reducible rfl))
    | (refine wpAnyH_take (i := 12) (oi := ⟨some 15, _, _, _, _, _⟩) (v := undef) rfl (by kernel_rfl) (by kernel_rfl) (by kernel_rfl) (fun _ _ _ h => h) (Or.inr ⟨by rfl, rfl⟩) hHeld ?rr12)
  try simp only [Act.put, List.setIfInBounds_toArray, List.set_cons_zero, List.set_cons_succ]
  first
    | (refine wpAnyH_take (i := 13) (oi := ⟨some 16, _, _, _, _, _⟩) (v := ?v13) rfl (by kernel_rfl) (by kernel_rfl) (by kernel_rfl) (fun _ _ _ h => h) (Or.inl ⟨by rfl, ?hy13⟩) hHeld ?rr13
       case hy13 => (intro w hSw; (try dsimp only at hSw); go_simp; try with_reducible rfl))
    | (refine wpAnyH_take (i := 13) (oi := ⟨some 16, _, _, _, _, _⟩) (v := undef) rfl (by kernel_rfl) (by kernel_rfl) (by kernel_rfl) (fun _ _ _ h => h) (Or.inr ⟨by rfl, rfl⟩) hHeld ?rr13)
  try simp only [Act.put, List.setIfInBounds_toArray, List.set_cons_zero, List.set_cons_succ]
  first
    | (refine wpAnyH_take (i := 14) (oi := ⟨some 17, _, _, _, _, _⟩) (v := ?v14) rfl (by kernel_rfl) (by kernel_rfl) (by kernel_rfl) (fun _ _ _ h => h) (Or.inl ⟨by rfl, ?hy14⟩) hHeld ?rr14
       case hy14 => (intro w hSw; (try dsimp only at hSw); go_simp; try with_reducible rfl))
    | (refine wpAnyH_take (i := 14) (oi := ⟨some 17, _, _, _, _, _⟩) (v := undef) rfl (by kernel_rfl) (by kernel_rfl) (by kernel_rfl) (fun _ _ _ h => h) (Or.inr ⟨by rfl, rfl⟩) hHeld ?rr14)
  try simp only [Act.put, List.setIfInBounds_toArray, List.set_cons_zero, List.set_cons_succ]
  first
    | (refine wpAnyH_take (i := 15) (oi := ⟨some 18, _, _, _, _, _⟩) (v := ?v15) rfl (by kernel_rfl) (by kernel_rfl) (by kernel_rfl) (fun _ _ _ h => h) (Or.inl ⟨by rfl, ?hy15⟩) hHeld ?rr15
       case hy15 => (intro w hSw; (try dsimp only at hSw); go_simp; try with_reducible rfl))
    | (refine wpAnyH_take (i := 15) (oi := ⟨some 18, _, _, _, _, _⟩) (v := undef) rfl (by kernel_rfl) (by kernel_rfl) (by kernel_rfl) (fun _ _ _ h => h) (Or.inr ⟨by rfl, rfl⟩) hHeld ?rr15)
  try simp only [Act.put, List.setIfInBounds_toArray, List.set_cons_zero, List.set_cons_succ]
  first
    | (refine wpAnyH_take (i := 16) (oi := ⟨some 19, _, _, _, _, _⟩) (v := ?v16) rfl (by kernel_rfl) (by kernel_rfl) (by kernel_rfl) (fun _ _ _ h => h) (Or.inl ⟨by rfl, ?hy16⟩) hHeld ?rr16
       case hy16 => (intro w hSw; (try dsimp only at hSw); go_simp; try with_reducible rfl))
    | (refine wpAnyH_take (i := 16) (oi := ⟨some 19, _, _, _, _, _⟩) (v := undef) rfl (by kernel_rfl) (by kernel_rfl) (by kernel_rfl) (fun _ _ _ h => h) (Or.inr ⟨by rfl, rfl⟩) hHeld ?rr16)
  try simp only [Act.put, List.setIfInBounds_toArray, List.set_cons_zero, List.set_cons_succ]
  first
    | (refine wpAnyH_take (i := 17) (oi := ⟨some 2, _, _, _, _, _⟩) (v := ?v17) rfl (by kernel_rfl) (by kernel_rfl) (by kernel_rfl) (fun _ _ _ h => h) (Or.inl ⟨by rfl, ?hy17⟩) hHeld ?rr17
       case hy17 => (intro w hSw; (try dsimp only at hSw); go_simp; try with_reducible rfl))
    | (refine wpAnyH_take (i := 17) (oi := ⟨some 2, _, _, _, _, _⟩) (v := undef) rfl (by kernel_rfl) (by kernel_rfl) (by kernel_rfl) (fun _ _ _ h => h) (Or.inr ⟨by rfl, rfl⟩) hHeld ?rr17)
  try simp only [Act.put, List.setIfInBounds_toArray, List.set_cons_zero, List.set_cons_succ]
  refine wpAnyH_done (by kernel_rfl) ?_ _
  refine NoPanic.normal ?_
  go_wp2
  go_ret
  exact ⟨rfl, hb0.drew⟩

set_option maxRecDepth 100000 in
set_option maxHeartbeats 6400000 in
theorem mcarries_nil (p : Pk) (hp : p.pr = 1) (hn : p.s.size = 0) (w : World) :
    Calls Tryd.prog 50 #[pv p] w fun e9 w' => e9 = .returned (.bool false) ∧ Below w.heap.size w w' := by
  have hs0 : p.s = ⟨#[]⟩ := ByteArray.ext (Array.eq_empty_of_size_eq_zero hn)
  have c2 := (blk_cell (k := 2) (blk_new w (po p)) rfl).1
  have c8 := (blk_cell (k := 8) (blk_new w (po p)) rfl).1
  simp only [List.getElem_toArray, List.getElem_cons_zero, List.getElem_cons_succ] at c2 c8
  have hb0 : Below w.heap.size w (w.alloc (po p)) := (Below.refl _ w).alloc (Nat.le_refl _) _
  rw [hp] at c2
  rw [hs0] at c8
  clear hp hs0 hn
  go_enter Tryd.func50, Tryd.ntmps50
  go_wp2_with fail
  refine wp_region_noPanic ?_
  refine wp_region_held_drew (S := fun w' => w'.cell? ⟨w.heap.size, 2, none⟩ = some (.int .i64 1) ∧ w'.cell? ⟨w.heap.size, 8, none⟩ = some (.string ⟨#[]⟩) ∧ Below w.heap.size w w') (by kernel_rfl) (⟨c2, c8, hb0.drew⟩) (fun hHeld => ?_)
  first
    | (refine wpAnyH_take (i := 0) (oi := ⟨some 3, _, _, _, _, _⟩) (v := ?v0) rfl (by kernel_rfl) (by kernel_rfl) (by kernel_rfl) (fun _ _ _ h => h) (Or.inl ⟨by rfl, ?hy0⟩) hHeld ?rr0
       case hy0 => (intro w hSw; (try dsimp only at hSw); go_simp; try with_reducible rfl))
    | (refine wpAnyH_take (i := 0) (oi := ⟨some 3, _, _, _, _, _⟩) (v := undef) rfl (by kernel_rfl) (by kernel_rfl) (by kernel_rfl) (fun _ _ _ h => h) (Or.inr ⟨by rfl, rfl⟩) hHeld ?rr0)
  try simp only [Act.put, List.setIfInBounds_toArray, List.set_cons_zero, List.set_cons_succ]
  first
    | (refine wpAnyH_take (i := 1) (oi := ⟨some 4, _, _, _, _, _⟩) (v := ?v1) rfl (by kernel_rfl) (by kernel_rfl) (by kernel_rfl) (fun _ _ _ h => h) (Or.inl ⟨by rfl, ?hy1⟩) hHeld ?rr1
       case hy1 => (intro w hSw; (try dsimp only at hSw); go_simp; try with_reducible rfl))
    | (refine wpAnyH_take (i := 1) (oi := ⟨some 4, _, _, _, _, _⟩) (v := undef) rfl (by kernel_rfl) (by kernel_rfl) (by kernel_rfl) (fun _ _ _ h => h) (Or.inr ⟨by rfl, rfl⟩) hHeld ?rr1)
  try simp only [Act.put, List.setIfInBounds_toArray, List.set_cons_zero, List.set_cons_succ]
  first
    | (refine wpAnyH_take (i := 2) (oi := ⟨some 5, _, _, _, _, _⟩) (v := ?v2) rfl (by kernel_rfl) (by kernel_rfl) (by kernel_rfl) (fun _ _ _ h => h) (Or.inl ⟨by rfl, ?hy2⟩) hHeld ?rr2
       case hy2 => (intro w hSw; (try dsimp only at hSw); go_simp; try with_reducible rfl))
    | (refine wpAnyH_take (i := 2) (oi := ⟨some 5, _, _, _, _, _⟩) (v := undef) rfl (by kernel_rfl) (by kernel_rfl) (by kernel_rfl) (fun _ _ _ h => h) (Or.inr ⟨by rfl, rfl⟩) hHeld ?rr2)
  try simp only [Act.put, List.setIfInBounds_toArray, List.set_cons_zero, List.set_cons_succ]
  first
    | (refine wpAnyH_take (i := 3) (oi := ⟨some 6, _, _, _, _, _⟩) (v := ?v3) rfl (by kernel_rfl) (by kernel_rfl) (by kernel_rfl) (fun _ _ _ h => h) (Or.inl ⟨by rfl, ?hy3⟩) hHeld ?rr3
       case hy3 => (intro w hSw; (try dsimp only at hSw); go_simp; try with_reducible rfl))
    | (refine wpAnyH_take (i := 3) (oi := ⟨some 6, _, _, _, _, _⟩) (v := undef) rfl (by kernel_rfl) (by kernel_rfl) (by kernel_rfl) (fun _ _ _ h => h) (Or.inr ⟨by rfl, rfl⟩) hHeld ?rr3)
  try simp only [Act.put, List.setIfInBounds_toArray, List.set_cons_zero, List.set_cons_succ]
  first
    | (refine wpAnyH_take (i := 4) (oi := ⟨some 7, _, _, _, _, _⟩) (v := ?v4) rfl (by kernel_rfl) (by kernel_rfl) (by kernel_rfl) (fun _ _ _ h => h) (Or.inl ⟨by rfl, ?hy4⟩) hHeld ?rr4
       case hy4 => (intro w hSw; (try dsimp only at hSw); go_simp; try with_reducible rfl))
    | (refine wpAnyH_take (i := 4) (oi := ⟨some 7, _, _, _, _, _⟩) (v := undef) rfl (by kernel_rfl) (by kernel_rfl) (by kernel_rfl) (fun _ _ _ h => h) (Or.inr ⟨by rfl, rfl⟩) hHeld ?rr4)
  try simp only [Act.put, List.setIfInBounds_toArray, List.set_cons_zero, List.set_cons_succ]
  first
    | (refine wpAnyH_take (i := 5) (oi := ⟨some 8, _, _, _, _, _⟩) (v := ?v5) rfl (by kernel_rfl) (by kernel_rfl) (by kernel_rfl) (fun _ _ _ h => h) (Or.inl ⟨by rfl, ?hy5⟩) hHeld ?rr5
       case hy5 => (intro w hSw; (try dsimp only at hSw); go_simp; try with_reducible rfl))
    | (refine wpAnyH_take (i := 5) (oi := ⟨some 8, _, _, _, _, _⟩) (v := undef) rfl (by kernel_rfl) (by kernel_rfl) (by kernel_rfl) (fun _ _ _ h => h) (Or.inr ⟨by rfl, rfl⟩) hHeld ?rr5)
  try simp only [Act.put, List.setIfInBounds_toArray, List.set_cons_zero, List.set_cons_succ]
  first
    | (refine wpAnyH_take (i := 6) (oi := ⟨some 9, _, _, _, _, _⟩) (v := ?v6) rfl (by kernel_rfl) (by kernel_rfl) (by kernel_rfl) (fun _ _ _ h => h) (Or.inl ⟨by rfl, ?hy6⟩) hHeld ?rr6
       case hy6 => (intro w hSw; (try dsimp only at hSw); go_simp; try with_reducible rfl))
    | (refine wpAnyH_take (i := 6) (oi := ⟨some 9, _, _, _, _, _⟩) (v := undef) rfl (by kernel_rfl) (by kernel_rfl) (by kernel_rfl) (fun _ _ _ h => h) (Or.inr ⟨by rfl, rfl⟩) hHeld ?rr6)
  try simp only [Act.put, List.setIfInBounds_toArray, List.set_cons_zero, List.set_cons_succ]
  first
    | (refine wpAnyH_take (i := 7) (oi := ⟨some 10, _, _, _, _, _⟩) (v := ?v7) rfl (by kernel_rfl) (by kernel_rfl) (by kernel_rfl) (fun _ _ _ h => h) (Or.inl ⟨by rfl, ?hy7⟩) hHeld ?rr7
       case hy7 => (intro w hSw; (try dsimp only at hSw); go_simp; try with_reducible rfl))
    | (refine wpAnyH_take (i := 7) (oi := ⟨some 10, _, _, _, _, _⟩) (v := undef) rfl (by kernel_rfl) (by kernel_rfl) (by kernel_rfl) (fun _ _ _ h => h) (Or.inr ⟨by rfl, rfl⟩) hHeld ?rr7)
  try simp only [Act.put, List.setIfInBounds_toArray, List.set_cons_zero, List.set_cons_succ]
  first
    | (refine wpAnyH_take (i := 8) (oi := ⟨some 11, _, _, _, _, _⟩) (v := ?v8) rfl (by kernel_rfl) (by kernel_rfl) (by kernel_rfl) (fun _ _ _ h => h) (Or.inl ⟨by rfl, ?hy8⟩) hHeld ?rr8
       case hy8 => (intro w hSw; (try dsimp only at hSw); go_simp; try with_reducible rfl))
    | (refine wpAnyH_take (i := 8) (oi := ⟨some 11, _, _, _, _, _⟩) (v := undef) rfl (by kernel_rfl) (by kernel_rfl) (by kernel_rfl) (fun _ _ _ h => h) (Or.inr ⟨by rfl, rfl⟩) hHeld ?rr8)
  try simp only [Act.put, List.setIfInBounds_toArray, List.set_cons_zero, List.set_cons_succ]
  first
    | (refine wpAnyH_take (i := 9) (oi := ⟨some 12, _, _, _, _, _⟩) (v := ?v9) rfl (by kernel_rfl) (by kernel_rfl) (by kernel_rfl) (fun _ _ _ h => h) (Or.inl ⟨by rfl, ?hy9⟩) hHeld ?rr9
       case hy9 => (intro w hSw; (try dsimp only at hSw); go_simp; try with_reducible rfl))
    | (refine wpAnyH_take (i := 9) (oi := ⟨some 12, _, _, _, _, _⟩) (v := undef) rfl (by kernel_rfl) (by kernel_rfl) (by kernel_rfl) (fun _ _ _ h => h) (Or.inr ⟨by rfl, rfl⟩) hHeld ?rr9)
  try simp only [Act.put, List.setIfInBounds_toArray, List.set_cons_zero, List.set_cons_succ]
  first
    | (refine wpAnyH_take (i := 10) (oi := ⟨some 13, _, _, _, _, _⟩) (v := ?v10) rfl (by kernel_rfl) (by kernel_rfl) (by kernel_rfl) (fun _ _ _ h => h) (Or.inl ⟨by rfl, ?hy10⟩) hHeld ?rr10
       case hy10 => (intro w hSw; (try dsimp only at hSw); go_simp; try with_reducible rfl))
    | (refine wpAnyH_take (i := 10) (oi := ⟨some 13, _, _, _, _, _⟩) (v := undef) rfl (by kernel_rfl) (by kernel_rfl) (by kernel_rfl) (fun _ _ _ h => h) (Or.inr ⟨by rfl, rfl⟩) hHeld ?rr10)
  try simp only [Act.put, List.setIfInBounds_toArray, List.set_cons_zero, List.set_cons_succ]
  first
    | (refine wpAnyH_take (i := 11) (oi := ⟨some 14, _, _, _, _, _⟩) (v := ?v11) rfl (by kernel_rfl) (by kernel_rfl) (by kernel_rfl) (fun _ _ _ h => h) (Or.inl ⟨by rfl, ?hy11⟩) hHeld ?rr11
       case hy11 => (intro w hSw; (try dsimp only at hSw); go_simp; try with_reducible rfl))
    | (refine wpAnyH_take (i := 11) (oi := ⟨some 14, _, _, _, _, _⟩) (v := undef) rfl (by kernel_rfl) (by kernel_rfl) (by kernel_rfl) (fun _ _ _ h => h) (Or.inr ⟨by rfl, rfl⟩) hHeld ?rr11)
  try simp only [Act.put, List.setIfInBounds_toArray, List.set_cons_zero, List.set_cons_succ]
  first
    | (refine wpAnyH_take (i := 12) (oi := ⟨some 15, _, _, _, _, _⟩) (v := ?v12) rfl (by kernel_rfl) (by kernel_rfl) (by kernel_rfl) (fun _ _ _ h => h) (Or.inl ⟨by rfl, ?hy12⟩) hHeld ?rr12
       case hy12 => (intro w hSw; (try dsimp only at hSw); go_simp; try with_reducible rfl))
    | (refine wpAnyH_take (i := 12) (oi := ⟨some 15, _, _, _, _, _⟩) (v := undef) rfl (by kernel_rfl) (by kernel_rfl) (by kernel_rfl) (fun _ _ _ h => h) (Or.inr ⟨by rfl, rfl⟩) hHeld ?rr12)
  try simp only [Act.put, List.setIfInBounds_toArray, List.set_cons_zero, List.set_cons_succ]
  first
    | (refine wpAnyH_take (i := 13) (oi := ⟨some 16, _, _, _, _, _⟩) (v := ?v13) rfl (by kernel_rfl) (by kernel_rfl) (by kernel_rfl) (fun _ _ _ h => h) (Or.inl ⟨by rfl, ?hy13⟩) hHeld ?rr13
       case hy13 => (intro w hSw; (try dsimp only at hSw); go_simp; try with_reducible rfl))
    | (refine wpAnyH_take (i := 13) (oi := ⟨some 16, _, _, _, _, _⟩) (v := undef) rfl (by kernel_rfl) (by kernel_rfl) (by kernel_rfl) (fun _ _ _ h => h) (Or.inr ⟨by rfl, rfl⟩) hHeld ?rr13)
  try simp only [Act.put, List.setIfInBounds_toArray, List.set_cons_zero, List.set_cons_succ]
  first
    | (refine wpAnyH_take (i := 14) (oi := ⟨some 17, _, _, _, _, _⟩) (v := ?v14) rfl (by kernel_rfl) (by kernel_rfl) (by kernel_rfl) (fun _ _ _ h => h) (Or.inl ⟨by rfl, ?hy14⟩) hHeld ?rr14
       case hy14 => (intro w hSw; (try dsimp only at hSw); go_simp; try with_reducible rfl))
    | (refine wpAnyH_take (i := 14) (oi := ⟨some 17, _, _, _, _, _⟩) (v := undef) rfl (by kernel_rfl) (by kernel_rfl) (by kernel_rfl) (fun _ _ _ h => h) (Or.inr ⟨by rfl, rfl⟩) hHeld ?rr14)
  try simp only [Act.put, List.setIfInBounds_toArray, List.set_cons_zero, List.set_cons_succ]
  first
    | (refine wpAnyH_take (i := 15) (oi := ⟨some 18, _, _, _, _, _⟩) (v := ?v15) rfl (by kernel_rfl) (by kernel_rfl) (by kernel_rfl) (fun _ _ _ h => h) (Or.inl ⟨by rfl, ?hy15⟩) hHeld ?rr15
       case hy15 => (intro w hSw; (try dsimp only at hSw); go_simp; try with_reducible rfl))
    | (refine wpAnyH_take (i := 15) (oi := ⟨some 18, _, _, _, _, _⟩) (v := undef) rfl (by kernel_rfl) (by kernel_rfl) (by kernel_rfl) (fun _ _ _ h => h) (Or.inr ⟨by rfl, rfl⟩) hHeld ?rr15)
  try simp only [Act.put, List.setIfInBounds_toArray, List.set_cons_zero, List.set_cons_succ]
  first
    | (refine wpAnyH_take (i := 16) (oi := ⟨some 19, _, _, _, _, _⟩) (v := ?v16) rfl (by kernel_rfl) (by kernel_rfl) (by kernel_rfl) (fun _ _ _ h => h) (Or.inl ⟨by rfl, ?hy16⟩) hHeld ?rr16
       case hy16 => (intro w hSw; (try dsimp only at hSw); go_simp; try with_reducible rfl))
    | (refine wpAnyH_take (i := 16) (oi := ⟨some 19, _, _, _, _, _⟩) (v := undef) rfl (by kernel_rfl) (by kernel_rfl) (by kernel_rfl) (fun _ _ _ h => h) (Or.inr ⟨by rfl, rfl⟩) hHeld ?rr16)
  try simp only [Act.put, List.setIfInBounds_toArray, List.set_cons_zero, List.set_cons_succ]
  first
    | (refine wpAnyH_take (i := 17) (oi := ⟨some 2, _, _, _, _, _⟩) (v := ?v17) rfl (by kernel_rfl) (by kernel_rfl) (by kernel_rfl) (fun _ _ _ h => h) (Or.inl ⟨by rfl, ?hy17⟩) hHeld ?rr17
       case hy17 => (intro w hSw; (try dsimp only at hSw); go_simp; try with_reducible rfl))
    | (refine wpAnyH_take (i := 17) (oi := ⟨some 2, _, _, _, _, _⟩) (v := undef) rfl (by kernel_rfl) (by kernel_rfl) (by kernel_rfl) (fun _ _ _ h => h) (Or.inr ⟨by rfl, rfl⟩) hHeld ?rr17)
  try simp only [Act.put, List.setIfInBounds_toArray, List.set_cons_zero, List.set_cons_succ]
  refine wpAnyH_done (by kernel_rfl) ?_ _
  refine NoPanic.normal ?_
  go_wp2
  go_ret
  exact ⟨rfl, hb0.drew⟩

/-- icmp.carriesError -/
theorem mcarries_any (p : Pk) (hs : p.s.size ≤ maxLen) (w : World) :
    Calls Tryd.prog 50 #[pv p] w fun e w' => e = .returned (.bool (decide (crE p))) ∧ Below w.heap.size w w' := by
  by_cases hp : p.pr = 1
  · by_cases hn : 0 < p.s.size
    · rw [show decide (crE p) = decide (errK (fb p.s)) from decide_eq_decide.2 ⟨fun h => h.2.2, fun h => ⟨hp, hn, h⟩⟩]
      obtain ⟨fv, room, hr⟩ := errK_rule (fb p.s)
      exact mcarries_yes p hs hp hn fv room hr w
    · rw [show decide (crE p) = false from decide_eq_false (fun h => hn h.2.1)]
      exact mcarries_nil p hp (by omega) w
  · rw [show decide (crE p) = false from decide_eq_false (fun h => hp h.1)]
    exact mcarries_pr p hp w
end
end Go.Proofs.YtidjbpglpobigaaDoor

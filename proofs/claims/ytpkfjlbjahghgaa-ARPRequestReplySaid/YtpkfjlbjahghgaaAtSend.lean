/- Contracts of Send: a nil table, what is refused, a resolved entry, an incomplete entry with room. -/
import Derived.Test.YtpkfjlbjahghgaaAtUpd
import Derived.Handy
namespace Go.Proofs.Ytpkfjlbjahghgaa
open Go.RowKit Go.Maps
set_option linter.unusedVariables false
attribute [local go_sem] Oper.semAt_some

/-- what a call leaves of the table -/
def TabQ (w w' : World) (base T mb : Nat) (own mac : Int) (said : Bool) (when : Int) (R : List PE) (L' : List En) : Prop :=
  ∃ R', TabP w' base T mb own mac said when R' ∧ R'.map (·.x) = L' ∧ Touch (fun k => k ∈ T :: mb :: allB R) w w' ∧ ∀ k ∈ T :: mb :: allB R', k ∈ T :: mb :: allB R ∨ w.heap.size ≤ k

def okS (own to : Int) (s : ByteArray) : Prop := okOne to ∧ to ≠ own ∧ s.size ≤ 1024

set_option maxRecDepth 20000 in
theorem send_nil (now to : Int) (s : ByteArray) (w : World) :
    Calls Try.prog 23 #[.pointer none, .int .i64 now, .int .i64 to, .string s] w fun e w' => e = .returned (.tuple #[.int .i64 0, .slice none 0 0, .int .i64 1]) ∧ w = w' := by
  go_enter Try.func23, Try.ntmps23
  go_wp2
  refine bodyPost_ret (v := .tuple #[.int .i64 0, .slice none 0 0, .int .i64 1]) (by simp [results, Try.results23, go_sem]; try rfl) rfl ⟨rfl, rfl⟩

set_option maxRecDepth 20000 in
set_option maxHeartbeats 1600000 in
theorem send_bad {w : World} {base T mb : Nat} {own mac when : Int} {said : Bool} {R : List PE} (h : TabP w base T mb own mac said when R) (now to : Int) (s : ByteArray) (hb : ¬ okS own to s) :
    Calls Try.prog 23 #[.pointer (some ⟨T, 0, none⟩), .int .i64 now, .int .i64 to, .string s] w fun e w' => e = .returned (.tuple #[.int .i64 0, .slice none 0 0, .int .i64 50]) ∧ w = w' := by
  obtain ⟨x0, -⟩ := mb_of h
  have H := uni_any to
  by_cases h1 : okOne to
  · rw [decide_eq_true h1] at H
    by_cases h2 : to = own
    · have h3 : (to == own) = true := by simpa using h2
      clear h2 hb h1
      go_enter Try.func23, Try.ntmps23
      go_wp2_with (go_at_call 41; refine (H _).mono ?_; rintro e w' ⟨rfl, rfl⟩; clear H)
      refine bodyPost_ret (v := .tuple #[.int .i64 0, .slice none 0 0, .int .i64 50]) (by simp [results, Try.results23, go_sem]; try rfl) rfl ⟨rfl, rfl⟩
    · have h3 : (to == own) = false := by simpa using h2
      have h4 : 1024 < s.size := by unfold okS at hb; simp [h1, h2] at hb; exact hb
      have h5 : decide ((1024 : Int) < (s.size : Int)) = true := by simp; omega
      clear h2 hb h1
      go_enter Try.func23, Try.ntmps23
      go_wp2_with (go_at_call 41; refine (H _).mono ?_; rintro e w' ⟨rfl, rfl⟩; clear H)
      refine bodyPost_ret (v := .tuple #[.int .i64 0, .slice none 0 0, .int .i64 50]) (by simp [results, Try.results23, go_sem]; try rfl) rfl ⟨rfl, rfl⟩
  · rw [decide_eq_false h1] at H
    clear hb
    go_enter Try.func23, Try.ntmps23
    go_wp2_with (go_at_call 41; refine (H _).mono ?_; rintro e w' ⟨rfl, rfl⟩; clear H)
    refine bodyPost_ret (v := .tuple #[.int .i64 0, .slice none 0 0, .int .i64 50]) (by simp [results, Try.results23, go_sem]; try rfl) rfl ⟨rfl, rfl⟩

theorem okOne_bd {a : Int} (h : okOne a) : -9223372036854775808 ≤ a ∧ a ≤ 9223372036854775807 := by unfold okOne at h; omega

set_option maxRecDepth 20000 in
set_option maxHeartbeats 1600000 in
theorem send_known {w : World} {base T mb : Nat} {own mac when : Int} {said : Bool} {R : List PE} (h : TabP w base T mb own mac said when R) (now to : Int) (s : ByteArray) (hb : okS own to s) {p : PE} (hp : lookP R to = some p) (hk : p.x.known = true) :
    Calls Try.prog 23 #[.pointer (some ⟨T, 0, none⟩), .int .i64 now, .int .i64 to, .string s] w fun e w' => e = .returned (.tuple #[.int .i64 p.x.mac, .slice none 0 0, .int .i64 0]) ∧
      TabQ w w' base T mb own mac said when R (updE (R.map (·.x)) to fun x => { x with sent := now }) := by
  obtain ⟨x0, -, x2, -⟩ := mb_of h
  have H := uni_any to
  rw [decide_eq_true hb.1] at H
  have h3 : (to == own) = false := by simpa using hb.2.1
  have h5 : decide ((1024 : Int) < (s.size : Int)) = false := by have := hb.2.2; simp; omega
  obtain ⟨k1, k2⟩ := okOne_bd hb.1
  have hl := tab_look h k1 k2
  rw [hp] at hl
  have he := h.ent p (lookP_some hp).1
  simp only [valOf, entVal, hk, if_true] at hl
  have hn := asRR (.pointer (some ⟨p.b, 0, none⟩)) w
  have hB := (he.res hk).1
  have c0 := (blk_cell (k := 0) (blk_setc (k := 2) hB (.int .i64 now)) rfl).1
  have c2 := blk_cell (k := 2) hB rfl
  simp only [List.getElem_toArray, List.getElem_cons_zero, List.getElem_cons_succ] at c0 c2
  obtain ⟨c2, f2⟩ := c2
  have HK := Lib.hid hk
  have HP := Lib.hid hp
  have HB := Lib.hid hB
  clear hk hp hB
  go_enter Try.func23, Try.ntmps23
  go_wp2_with (go_at_call 41; refine (H _).mono ?_; rintro e w' ⟨rfl, rfl⟩; clear H)
  refine bodyPost_ret (v := .tuple #[.int .i64 p.x.mac, .slice none 0 0, .int .i64 0]) (by simp [results, Try.results23, go_sem]; try rfl) rfl ⟨rfl, ?_⟩
  obtain ⟨A, C, e, hA⟩ := look_split HP.out
  have hpa := (lookP_some HP.out).2
  have hp0 := (he.res HK.out).2
  refine ⟨A ++ { p with x := { p.x with sent := now } } :: C, ?_, ?_, ?_, ?_⟩
  · rw [e] at h
    refine h.one _ rfl rfl rfl ⟨he.low, fun _ => ⟨blk_setc (k := 2) HB.out _, hp0⟩, fun hf => ?_⟩ ?_ (fun k hk => .inl hk) (Touch.grown (grown_set _ _ _) (fun k hk => by cases hk; simp [PE.blks]))
    · exact absurd (hf.symm.trans HK.out) (by simp)
    · simp [PE.blks, hp0, Value.ownBlock]
  · rw [e] at h ⊢
    exact upd_split h.sorted hpa _ _ rfl
  · rw [e]
    exact Touch.grown (grown_set _ _ _) (fun k hk => by cases hk; simp [allB, PE.blks])
  · intro k hk
    rw [e]
    exact .inl (by simpa [allB, PE.blks] using hk)

set_option maxRecDepth 20000 in
set_option maxHeartbeats 1600000 in
theorem send_hold {w : World} {base T mb : Nat} {own mac when : Int} {said : Bool} {R : List PE} (h : TabP w base T mb own mac said when R) (now to : Int) (s : ByteArray) (hb : okS own to s) {p : PE} (hp : lookP R to = some p) (hk : p.x.known = false) (hl4 : p.x.held.length < 4) :
    Calls Try.prog 23 #[.pointer (some ⟨T, 0, none⟩), .int .i64 now, .int .i64 to, .string s] w fun e w' => e = .returned (.tuple #[.int .i64 0, .slice none 0 0, .int .i64 0]) ∧
      TabQ w w' base T mb own mac said when R (updE (R.map (·.x)) to fun x => { x with held := x.held ++ [s] }) := by
  obtain ⟨x0, -, x2, -⟩ := mb_of h
  have H := uni_any to
  rw [decide_eq_true hb.1] at H
  have h3 : (to == own) = false := by simpa using hb.2.1
  have h5 : decide ((1024 : Int) < (s.size : Int)) = false := by have := hb.2.2; simp; omega
  obtain ⟨k1, k2⟩ := okOne_bd hb.1
  have hl := tab_look h k1 k2
  rw [hp] at hl
  have he := h.ent p (lookP_some hp).1
  simp only [valOf, entVal, hk, Bool.false_eq_true, if_false] at hl
  have hn := asRI (.pointer (some ⟨p.b, 0, none⟩)) w
  have hn2 := asII (.pointer (some ⟨p.b, 0, none⟩)) w
  have HH := hold_few s (he.inc hk).1 (he.inc hk).2 hl4 (Nat.le_trans h.low.1 (Nat.le_of_lt (blk_lt h.blk)))
  have hrow := (he.inc hk).2
  have hne := row_ne hrow (he.inc hk).1 (by decide)
  have HK := Lib.hid hk
  have HP := Lib.hid hp
  clear hk hp
  go_enter Try.func23, Try.ntmps23
  go_wp2_with (first
    | (go_at_call 41; refine (H _).mono ?_; rintro e w' ⟨rfl, rfl⟩; clear H)
    | (go_at_call 46; refine HH.mono ?_; rintro e w1 ⟨rfl, hv', q1, q2, q3, q4⟩; clear HH))
  refine bodyPost_ret (v := .tuple #[.int .i64 0, .slice none 0 0, .int .i64 0]) (by simp [results, Try.results23, go_sem]; try rfl) rfl ⟨rfl, ?_⟩
  obtain ⟨A, C, e, hA⟩ := look_split HP.out
  have hpa := (lookP_some HP.out).2
  have hq : ∀ k ∈ PE.blks ⟨{ p.x with held := p.x.held ++ [s] }, p.b, hv'⟩, k ∈ p.blks ∨ w.heap.size ≤ k := by
    intro k hk
    rcases List.mem_cons.1 hk with rfl | hk
    · exact .inl (by simp [PE.blks])
    · rcases q3 with q3 | ⟨g, q3, q5⟩
      · rw [q3] at hk; exact .inl (by unfold PE.blks; exact List.mem_cons_of_mem _ hk)
      · rw [q3] at hk; obtain rfl : k = g := by simpa using hk
        exact .inr q5
  have ht : Touch (fun k => k ∈ p.blks) w w1 := ⟨q4.os, q4.tape, q4.output, q4.size, fun k hk hn => q4.block k hk (fun h => hn (by unfold PE.blks; rcases h with rfl | h <;> simp_all))⟩
  refine ⟨A ++ ⟨{ p.x with held := p.x.held ++ [s] }, p.b, hv'⟩ :: C, ?_, ?_, ?_, ?_⟩
  · rw [e] at h
    refine h.one _ rfl rfl rfl ⟨he.low, fun hf => ?_, fun _ => ⟨q1, by simpa using q2⟩⟩ ?_ hq ht
    · exact absurd (HK.out.symm.trans hf) (by simp)
    · have := row_ne q2 q1 (by decide)
      unfold PE.blks
      simp only
      cases hvo : hv'.ownBlock with
      | none => simp
      | some g => rw [hvo] at this; simp; intro e; exact this (by rw [e])
  · rw [e] at h ⊢
    exact upd_split h.sorted hpa _ _ rfl
  · rw [e]
    exact ⟨ht.os, ht.tape, ht.output, ht.size, fun k hk hn => ht.block k hk (fun h => hn (by rw [allB_mid]; simp [h]))⟩
  · intro k hk
    rw [e, allB_mid]
    rw [allB_mid] at hk
    simp only [List.mem_cons, List.mem_append] at hk ⊢
    rcases hk with hk | hk | hk | hk | hk
    · exact .inl (.inl hk)
    · exact .inl (.inr (.inl hk))
    · exact .inl (.inr (.inr (.inl hk)))
    · rcases hq k hk with hk | hk
      · exact .inl (.inr (.inr (.inr (.inl hk))))
      · exact .inr hk
    · exact .inl (.inr (.inr (.inr (.inr hk))))
end Go.Proofs.Ytpkfjlbjahghgaa

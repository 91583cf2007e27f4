/- Contracts of defend and resolve. -/
import Derived.Test.YtpkfjlbjahghgaaAtNew
namespace Go.Proofs.Ytpkfjlbjahghgaa
open Go.RowKit Go.Maps
set_option linter.unusedVariables false
attribute [local go_sem] Oper.semAt_some

theorem TabP.setc {w : World} {base T mb : Nat} {own mac when : Int} {said : Bool} {R : List PE} (h : TabP w base T mb own mac said when R) (now : Int) :
    TabP ((w.setCell ⟨T, 3, none⟩ (.bool true)).setCell ⟨T, 4, none⟩ (.int .i64 now)) base T mb own mac true now R := by
  have hnd := (List.nodup_cons.1 h.nodup).1
  have hk : ∀ k, k ∈ mb :: allB R → ((w.setCell ⟨T, 3, none⟩ (.bool true)).setCell ⟨T, 4, none⟩ (.int .i64 now)).heap[k]? = w.heap[k]? := fun k hk => by
    have hne : k ≠ T := fun e => hnd (by rw [← e]; exact hk)
    exact (Below.heap_setCell _ _ _ k hne).trans (Below.heap_setCell _ _ _ k hne)
  exact ⟨h.low, blk_setc (k := 4) (blk_setc (k := 3) h.blk _) _, map_of_block h.map (hk _ (by simp)), fun p hp => (h.ent p hp).kept (fun k hk2 => hk k (by simp [mem_allB hp hk2])), h.nodup, h.sorted, h.ok⟩

/-- does the table keep silent? -/
def quiet (mac : Int) (said : Bool) (when now m : Int) : Bool := decide (m = mac) || (said && decide (now - when < 10))

set_option maxRecDepth 20000 in
set_option maxHeartbeats 1600000 in
theorem defend_no {w : World} {base T mb : Nat} {own mac when : Int} {said : Bool} {R : List PE} (h : TabP w base T mb own mac said when R) (now m : Int) (hq : quiet mac said when now m = true)
    (h1 : -4611686018427387904 ≤ when) (h2 : when ≤ 4611686018427387904) (h3 : -4611686018427387904 ≤ now) (h4 : now ≤ 4611686018427387904) :
    Calls Try.prog 56 #[.pointer (some ⟨T, 0, none⟩), .int .i64 now, .int .i64 m] w fun e w' => e = .returned (.slice none 0 0) ∧ w = w' := by
  obtain ⟨x0, x1, -, x3, x4⟩ := mb_of h
  have H := elapsed_any when now 10 w h1 h2 h3 h4 (by decide) (by decide)
  by_cases e1 : m = mac
  · have e2 : (m == mac) = true := by simpa using e1
    clear hq e1 H
    go_enter Try.func56, Try.ntmps56
    go_wp2
    go_ret
    exact ⟨rfl, rfl⟩
  · have e2 : (m == mac) = false := by simpa using e1
    unfold quiet at hq
    simp only [e1, decide_false, Bool.false_or, Bool.and_eq_true, decide_eq_true_eq] at hq
    obtain ⟨rfl, e3⟩ := hq
    rw [show decide (10 ≤ now - when) = false from decide_eq_false (by omega)] at H
    clear e1 e3
    go_enter Try.func56, Try.ntmps56
    go_wp2_with (go_at_call 53; refine H.mono ?_; rintro e w' ⟨rfl, rfl⟩; clear H)
    go_ret
    exact ⟨rfl, rfl⟩

set_option maxRecDepth 20000 in
set_option maxHeartbeats 1600000 in
theorem defend_yes {w : World} {base T mb : Nat} {own mac when : Int} {said : Bool} {R : List PE} (h : TabP w base T mb own mac said when R) (now m : Int) (hq : quiet mac said when now m = false)
    (h1 : -4611686018427387904 ≤ when) (h2 : when ≤ 4611686018427387904) (h3 : -4611686018427387904 ≤ now) (h4 : now ≤ 4611686018427387904) :
    Calls Try.prog 56 #[.pointer (some ⟨T, 0, none⟩), .int .i64 now, .int .i64 m] w fun e w' => ∃ v, e = .returned v ∧ ArpsAt w' v [⟨1, own, mac, own, 0⟩] ∧
      TabV w w' base T mb own mac true now R (R.map (·.x)) [v] := by
  obtain ⟨x0, x1, -, x3, x4⟩ := mb_of h
  have H := elapsed_any when now 10 w h1 h2 h3 h4 (by decide) (by decide)
  unfold quiet at hq
  simp only [Bool.or_eq_false_iff, Bool.and_eq_false_iff, decide_eq_false_iff_not] at hq
  obtain ⟨e1, e3⟩ := hq
  have e2 : (m == mac) = false := by simpa using e1
  have f3 := (blk_cell (k := 3) h.blk rfl).2
  obtain ⟨g4, f4⟩ : (w.setCell ⟨T, 3, none⟩ (.bool true)).cell? ⟨T, 4, none⟩ = some (.int .i64 when) ∧ (w.setCell ⟨T, 3, none⟩ (.bool true)).frozen? ⟨T, 4, none⟩ = false := blk_cell (k := 4) (blk_setc (k := 3) h.blk (.bool true)) rfl
  have hS := h.setc now
  obtain ⟨z0, z1, -⟩ := mb_of hS
  have hTl := blk_lt hS.blk
  have HS := Lib.hid hS
  clear hS
  have hlast : Calls Try.prog 56 #[.pointer (some ⟨T, 0, none⟩), .int .i64 now, .int .i64 m] w fun e w' => ∃ w1, Below ((w.setCell ⟨T, 3, none⟩ (.bool true)).setCell ⟨T, 4, none⟩ (.int .i64 now)).heap.size ((w.setCell ⟨T, 3, none⟩ (.bool true)).setCell ⟨T, 4, none⟩ (.int .i64 now)) w1 ∧
      e = .returned (.slice (some ⟨w1.heap.size, 0, none⟩) 1 1) ∧ w' = w1.alloc (ao 1 own mac own 0) := by
    cases said with
    | true =>
      have e4 : 10 ≤ now - when := by simpa using e3
      rw [show decide (10 ≤ now - when) = true from decide_eq_true e4] at H
      clear e1 e3 e4
      go_enter Try.func56, Try.ntmps56
      go_wp2_with (first
        | (go_at_call 53; refine H.mono ?_; rintro e w' ⟨rfl, rfl⟩; clear H)
        | (go_at_call 48; refine (request_any T own mac own _ hTl z0 z1).mono ?_; rintro e w2 ⟨rfl, hb2⟩))
      go_ret
      exact ⟨_, hb2, rfl, rfl⟩
    | false =>
      clear e1 e3 H
      go_enter Try.func56, Try.ntmps56
      go_wp2_with (first
        | (go_at_call 48; refine (request_any T own mac own _ hTl z0 z1).mono ?_; rintro e w2 ⟨rfl, hb2⟩))
      go_ret
      exact ⟨_, hb2, rfl, rfl⟩
  refine hlast.mono ?_
  rintro e w' ⟨w1, hb, rfl, rfl⟩
  have hs1 := hb.size
  simp only [World.size_setCell] at hs1
  have hTab := (HS.out.kept (fun k hk => hb.block k (HS.out.lt k hk).2)).kept (w' := w1.alloc (ao 1 own mac own 0)) (fun k hk => Below.heap_alloc w1 _ k (Nat.lt_of_lt_of_le (HS.out.lt k hk).2 hb.size))
  refine ⟨_, rfl, arps_one (blk_new w1 _), R, hTab, rfl, ?_, fun k hk => .inl hk, ?_⟩
  · have t1 : Touch (fun k => k ∈ T :: mb :: allB R) w ((w.setCell ⟨T, 3, none⟩ (.bool true)).setCell ⟨T, 4, none⟩ (.int .i64 now)) :=
      (Touch.grown (grown_set w ⟨T, 3, none⟩ _) (fun k hk => by cases hk; simp)).trans (Touch.grown (S := fun k => k ∈ T :: mb :: allB R) (grown_set _ ⟨T, 4, none⟩ _) (fun k hk => by cases hk; simp)) (fun k hk => .inl hk)
    exact (t1.trans (Touch.of (S := fun k => k ∈ T :: mb :: allB R) hb) (fun k hk => .inl hk)).trans (Touch.of (S := fun k => k ∈ T :: mb :: allB R) ((Below.refl _ w1).alloc (Nat.le_refl _) _)) (fun k hk => .inl hk)
  · intro v hv k hk
    obtain rfl : v = _ := by simpa using hv
    obtain rfl : w1.heap.size = k := by simpa [Value.ownBlock] using hk
    refine ⟨hs1, by simp, fun hm => ?_⟩
    have := (h.lt _ hm).2
    omega

def resE (to now m : Int) : En := ⟨to, true, m, now, now, [], 0, 0, 0⟩
def outL (to m : Int) (hs : List ByteArray) : List Hp := hs.map fun s => ⟨to, m, s⟩
/-- is the address being asked for? -/
def askedP (R : List PE) (a : Int) : Option PE := (lookP R a).filter fun p => !p.x.known

set_option maxRecDepth 20000 in
set_option maxHeartbeats 1600000 in
theorem resolve_no {w : World} {base T mb : Nat} {own mac when : Int} {said : Bool} {R : List PE} (h : TabP w base T mb own mac said when R) (now to m : Int) (ho : okOne to) (hp : askedP R to = none) :
    Calls Try.prog 57 #[.pointer (some ⟨T, 0, none⟩), .int .i64 now, .int .i64 to, .int .i64 m] w fun e w' => e = .returned (.slice none 0 0) ∧ w = w' := by
  obtain ⟨-, -, x2, -⟩ := mb_of h
  obtain ⟨k1, k2⟩ := okOne_bd ho
  have hl := tab_look h k1 k2
  unfold askedP at hp
  cases hq : lookP R to with
  | none =>
    rw [hq] at hl
    simp only [valOf] at hl
    have hn := asIN w
    clear hq hp
    go_enter Try.func57, Try.ntmps57
    go_wp2
    go_ret
    exact ⟨rfl, rfl⟩
  | some p =>
    have hk : p.x.known = true := by rw [hq] at hp; simpa [Option.filter] using hp
    rw [hq] at hl
    simp only [valOf, entVal, hk, if_true] at hl
    have hn := asIR (.pointer (some ⟨p.b, 0, none⟩)) w
    clear hq hp hk
    go_enter Try.func57, Try.ntmps57
    go_wp2
    go_ret
    exact ⟨rfl, rfl⟩

theorem res_put {w w1 : World} {base T mb : Nat} {own mac when : Int} {said : Bool} {R : List PE} (h : TabP w base T mb own mac said when R) (now to m : Int) (ho : okOne to)
    (hm : ∃ n, w1.ownsMap Try.prog 3 raw mb n ((mapD R).put (.int .i64 to) (.held (entVal ⟨resE to now m, w.heap.size, .slice none 0 0⟩))))
    (hg : (w.alloc (reso (resE to now m))).grownBy w1 (some mb)) :
    TabP w1 base T mb own mac said when (putP R ⟨resE to now m, w.heap.size, .slice none 0 0⟩) := by
  have hlow : base ≤ w.heap.size := Nat.le_trans h.low.1 (Nat.le_of_lt (blk_lt h.blk))
  have h2 : TabP (w.alloc (reso (resE to now m))) base T mb own mac said when R := h.kept fun k hk => Below.heap_alloc w _ k (h.lt k hk).2
  refine h2.put ⟨resE to now m, w.heap.size, .slice none 0 0⟩ ho hm hg ⟨hlow, fun _ => ⟨blk_new w _, rfl⟩, (fun hf => by cases hf)⟩ ?_ ?_
  · simp [PE.blks, Value.ownBlock]
  · intro k hk hk2
    have := (h.lt k hk2).2
    simp [PE.blks, Value.ownBlock] at hk
    omega

set_option maxRecDepth 20000 in
set_option maxHeartbeats 1600000 in
theorem resolve_yes {w : World} {base T mb : Nat} {own mac when : Int} {said : Bool} {R : List PE} (h : TabP w base T mb own mac said when R) (now to m : Int) (ho : okOne to) {p : PE} (hp : lookP R to = some p) (hk : p.x.known = false) (hl : p.x.held.length ≤ 1000) (hR : R.length ≤ 1000) :
    Calls Try.prog 57 #[.pointer (some ⟨T, 0, none⟩), .int .i64 now, .int .i64 to, .int .i64 m] w fun e w' => ∃ v, e = .returned v ∧ HpsAt w' v (outL to m p.x.held) ∧
      TabV w w' base T mb own mac said when R (setE (R.map (·.x)) (resE to now m)) [v] := by
  obtain ⟨-, -, x2, -⟩ := mb_of h
  obtain ⟨k1, k2⟩ := okOne_bd ho
  have hlk := tab_look h k1 k2
  rw [hp] at hlk
  simp only [valOf, entVal, hk, Bool.false_eq_true, if_false] at hlk
  have he := h.ent p (lookP_some hp).1
  have hn := asII (.pointer (some ⟨p.b, 0, none⟩)) w
  have hown0 := h.map.alloc (.cells #[.int .i64 m, .int .i64 now, .int .i64 now] 90)
  have y2 := cell_alloc x2 (.cells #[.int .i64 m, .int .i64 now, .int .i64 now] 90)
  have hkey := keyI k1 k2
  obtain ⟨nR, hnR⟩ : ∃ n, R.length = n := ⟨_, rfl⟩
  rw [hnR] at hown0 hR
  have hcapM : nR < maxLen := by unfold maxLen; omega
  have HE := Lib.hid (he.inc hk)
  have HP := Lib.hid hp
  clear hnR hp hk
  go_enter Try.func57, Try.ntmps57
  go_wp2_with (first
    | (at_mapUpdate; refine wpList_mapUpdate_own _ rfl _ _ _ 80 rfl 3 87 law Try.underlying80 raw mb nR (mapD R) rfl hown0 hcapM _ _ (.int .i64 to) rfl rfl hkey (.held (entVal ⟨resE to now m, w.heap.size, .slice none 0 0⟩)) [] rfl ?_))
  intro w1 hown1 hgrow1
  have hpm : ∀ k ∈ p.blks, k ∈ T :: mb :: allB R := fun k hk => by simp [mem_allB (lookP_some HP.out).1 hk]
  have hpne : ∀ k ∈ p.blks, k ≠ mb := fun k hk e => by
    subst e
    exact (List.nodup_cons.1 (List.nodup_cons.1 h.nodup).2).1 (mem_allB (lookP_some HP.out).1 hk)
  have hpk : ∀ k ∈ p.blks, w1.heap[k]? = w.heap[k]? := fun k hk =>
    (hgrow1.block k (by have := (h.lt k (hpm k hk)).2; simp; omega) (fun e => hpne k hk (by cases e; rfl))).trans (Below.heap_alloc w _ k (h.lt k (hpm k hk)).2)
  have hE1 : w1.heap[p.b]? = some (inco p.x p.hv) := (hpk _ (by simp [PE.blks])).trans HE.out.1
  have hrow1 : w1.ownsRow base 9 1 p.hv p.x.held.length (strs p.x.held) := row_of_block HE.out.2 (fun k e => hpk k (by simp [PE.blks, e]))
  have hTab := res_put h now to m ho ⟨_, hown1⟩ hgrow1
  have hgr := hgrow1
  clear hown1 hgrow1 hpk
  go_wp2_with (go_at_call 54; refine (release_any to m hE1 hrow1 hl).mono ?_; rintro e w2 ⟨⟨v, rfl, hv⟩, hb2⟩)
  go_ret
  have hs1 : w.heap.size + 1 ≤ w1.heap.size := by have := hgr.size; simpa using this
  have hs2 := hb2.size
  refine ⟨_, rfl, hps_own hv (by simp [outL]), _, hTab.kept (fun k hk => hb2.block k (hTab.lt k hk).2), putP_map R _, ?_, ?_, ?_⟩
  · have t1 : Touch (fun k => k ∈ T :: mb :: allB R) w (w.alloc (reso (resE to now m))) := Touch.of ((Below.refl _ w).alloc (Nat.le_refl _) _)
    have t2 := t1.trans (Touch.grown (S := fun k => k ∈ T :: mb :: allB R) hgr (fun k hk => by cases hk; simp)) (fun k hk => .inl hk)
    exact t2.trans (Touch.of (S := fun k => k ∈ T :: mb :: allB R) hb2) (fun k hk => .inl hk)
  · intro k hk
    rcases put_blks hk with hk | hk
    · refine .inr ?_
      simp [PE.blks, Value.ownBlock] at hk
      omega
    · exact .inl hk
  · intro v' hv' k hk
    obtain rfl : v' = v := by simpa using hv'
    have h5 := own_base hv hk
    refine ⟨by omega, (hv.lt k hk).2, fun hm => ?_⟩
    have := (hTab.lt _ hm).2
    omega
end Go.Proofs.Ytpkfjlbjahghgaa

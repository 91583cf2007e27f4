/- Contract of Send to a new address while there is room. -/
import Derived.Test.YtpkfjlbjahghgaaAtReq
namespace Go.Proofs.Ytpkfjlbjahghgaa
open Go.RowKit Go.Maps
set_option linter.unusedVariables false
attribute [local go_sem] Oper.semAt_some

/-- the same, with fresh results -/
def TabV (w w' : World) (base T mb : Nat) (own mac : Int) (said : Bool) (when : Int) (R : List PE) (L' : List En) (vs : List Value) : Prop :=
  ∃ R', TabP w' base T mb own mac said when R' ∧ R'.map (·.x) = L' ∧ Touch (fun k => k ∈ T :: mb :: allB R) w w' ∧ (∀ k ∈ T :: mb :: allB R', k ∈ T :: mb :: allB R ∨ w.heap.size ≤ k) ∧
    ∀ v ∈ vs, ∀ k, v.ownBlock = some k → w.heap.size ≤ k ∧ k < w'.heap.size ∧ k ∉ T :: mb :: allB R'
theorem TabQ.v {w w' : World} {base T mb : Nat} {own mac when : Int} {said : Bool} {R : List PE} {L' : List En} (h : TabQ w w' base T mb own mac said when R L') (vs : List Value) (hv : ∀ v ∈ vs, v.ownBlock = none) : TabV w w' base T mb own mac said when R L' vs := by
  obtain ⟨R', h1, h2, h3, h4⟩ := h
  exact ⟨R', h1, h2, h3, h4, fun v hm k hk => by rw [hv v hm] at hk; cases hk⟩

def newE (to now : Int) (s : ByteArray) : En := ⟨to, false, 0, 0, 0, [s], 1, now, now⟩

theorem put_blks {R : List PE} {p : PE} {T mb k : Nat} (h : k ∈ T :: mb :: allB (putP R p)) : k ∈ p.blks ∨ k ∈ T :: mb :: allB R := by
  rcases List.mem_cons.1 h with rfl | h
  · exact .inr (by simp)
  rcases List.mem_cons.1 h with rfl | h
  · exact .inr (by simp)
  obtain ⟨q, hq, hk⟩ := List.mem_flatMap.1 h
  rcases List.mem_cons.1 ((insP_perm p (dropP R p.x.addr)).mem_iff.1 hq) with rfl | hq
  · exact .inl hk
  · exact .inr (by simp [mem_allB (dropP_ne hq).1 hk])
theorem drop_blks {R : List PE} {a : Int} {T mb k : Nat} (h : k ∈ T :: mb :: allB (dropP R a)) : k ∈ T :: mb :: allB R := by
  rcases List.mem_cons.1 h with rfl | h
  · simp
  rcases List.mem_cons.1 h with rfl | h
  · simp
  obtain ⟨q, hq, hk⟩ := List.mem_flatMap.1 h
  simp [mem_allB (dropP_ne hq).1 hk]
theorem arps_one {w : World} {b : Nat} {o f m t n : Int} (h : w.heap[b]? = some (ao o f m t n)) : ArpsAt w (.slice (some ⟨b, 0, none⟩) 1 1) [⟨o, f, m, t, n⟩] := by
  refine .inr ⟨b, 0, 1, rfl, fun j hj => ?_⟩
  obtain rfl : j = 0 := by simpa using hj
  exact ⟨(blk_cell (k := 0) h rfl).1, (blk_cell (k := 1) h rfl).1, (blk_cell (k := 2) h rfl).1, (blk_cell (k := 3) h rfl).1, (blk_cell (k := 4) h rfl).1⟩
theorem row_one {w : World} {base g : Nat} {s : ByteArray} (h : w.heap[g]? = some (.cells #[.string s] 9)) (hb : base ≤ g) : w.ownsRow base 9 1 (.slice (some ⟨g, 0, none⟩) 1 1) 1 (strs [s]) :=
  ⟨rfl, .inr ⟨g, 1, _, rfl, hb, h, Nat.le_refl _, by unfold maxLen; omega, rfl, rfl⟩⟩
theorem new_put {w w1 : World} {base T mb : Nat} {own mac when : Int} {said : Bool} {R : List PE} (h : TabP w base T mb own mac said when R) (now to : Int) (s : ByteArray) (hb : okS own to s) (hp : lookP R to = none)
    (hm : ∃ n, w1.ownsMap Try.prog 3 raw mb n ((mapD R).put (.int .i64 to) (.held (entVal ⟨newE to now s, w.heap.size + 1, .slice (some ⟨w.heap.size, 0, none⟩) 1 1⟩))))
    (hg : ((w.alloc (.cells #[.string s] 9)).alloc (inco (newE to now s) (.slice (some ⟨w.heap.size, 0, none⟩) 1 1))).grownBy w1 (some mb)) :
    TabP w1 base T mb own mac said when (putP R ⟨newE to now s, w.heap.size + 1, .slice (some ⟨w.heap.size, 0, none⟩) 1 1⟩) := by
  have hlow : base ≤ w.heap.size := Nat.le_trans h.low.1 (Nat.le_of_lt (blk_lt h.blk))
  have h2 : TabP ((w.alloc (.cells #[.string s] 9)).alloc (inco (newE to now s) (.slice (some ⟨w.heap.size, 0, none⟩) 1 1))) base T mb own mac said when R := h.kept fun k hk => by
    have hlt := (h.lt k hk).2
    exact (Below.heap_alloc _ _ k (by simp; omega)).trans (Below.heap_alloc w _ k hlt)
  have b1 := blk_alloc (blk_new w (.cells #[.string s] 9)) (inco (newE to now s) (.slice (some ⟨w.heap.size, 0, none⟩) 1 1))
  have b2 := blk_new (w.alloc (.cells #[.string s] 9)) (inco (newE to now s) (.slice (some ⟨w.heap.size, 0, none⟩) 1 1))
  rw [World.size_alloc] at b2
  refine h2.put ⟨newE to now s, w.heap.size + 1, .slice (some ⟨w.heap.size, 0, none⟩) 1 1⟩ hb.1 hm hg ⟨by show base ≤ w.heap.size + 1; omega, (fun hf => by cases hf), fun _ => ⟨b2, row_one b1 hlow⟩⟩ ?_ ?_
  · simp [PE.blks, Value.ownBlock]
  · intro k hk hk2
    have := (h.lt k hk2).2
    simp [PE.blks, Value.ownBlock] at hk
    omega

set_option maxRecDepth 20000 in
set_option maxHeartbeats 3200000 in
theorem send_new {w : World} {base T mb : Nat} {own mac when : Int} {said : Bool} {R : List PE} (h : TabP w base T mb own mac said when R) (now to : Int) (s : ByteArray) (hb : okS own to s) (hp : lookP R to = none) (hl16 : R.length < 16) :
    Calls Try.prog 23 #[.pointer (some ⟨T, 0, none⟩), .int .i64 now, .int .i64 to, .string s] w fun e w' => ∃ v, e = .returned (.tuple #[.int .i64 0, v, .int .i64 0]) ∧ ArpsAt w' v [⟨1, own, mac, to, 0⟩] ∧
      TabV w w' base T mb own mac said when R (setE (R.map (·.x)) (newE to now s)) [v] := by
  obtain ⟨x0, -, x2, -⟩ := mb_of h
  have H := uni_any to
  rw [decide_eq_true hb.1] at H
  have h3 : (to == own) = false := by simpa using hb.2.1
  have h5 : decide ((1024 : Int) < (s.size : Int)) = false := by have := hb.2.2; simp; omega
  obtain ⟨k1, k2⟩ := okOne_bd hb.1
  have hl := tab_look h k1 k2
  rw [hp] at hl
  simp only [valOf] at hl
  have hn := asRN w
  have hn2 := asIN w
  have hln := tab_len h
  have h6 : ((R.length : Int) == 16) = false := by simp; omega
  have y2 := cell_alloc (cell_alloc x2 (.cells #[.string s] 9)) (.cells #[.slice (some ⟨w.heap.size, 0, none⟩) 1 1, .int .i64 1, .int .i64 now, .int .i64 now] 94)
  have hTl := blk_lt h.blk
  have hown0 := (h.map.alloc (.cells #[.string s] 9)).alloc (.cells #[.slice (some ⟨w.heap.size, 0, none⟩) 1 1, .int .i64 1, .int .i64 now, .int .i64 now] 94)
  have hkey := keyI k1 k2
  obtain ⟨nR, hnR⟩ : ∃ n, R.length = n := ⟨_, rfl⟩
  rw [hnR] at hln h6 hown0 hl16
  have hcapM : nR < maxLen := by unfold maxLen; omega
  have HR := Lib.hid hnR
  have HP := Lib.hid hp
  clear hnR hp
  go_enter Try.func23, Try.ntmps23
  go_wp2_with (first
    | (go_at_call 41; refine (H _).mono ?_; rintro e w' ⟨rfl, rfl⟩; clear H)
    | (at_mapUpdate; refine wpList_mapUpdate_own _ rfl _ _ _ 80 rfl 3 87 law Try.underlying80 raw mb nR (mapD R) rfl hown0 hcapM _ _ (.int .i64 to) rfl rfl hkey (.held (entVal ⟨newE to now s, w.heap.size + 1, .slice (some ⟨w.heap.size, 0, none⟩) 1 1⟩)) [] rfl ?_))
  intro w1 hown1 hgrow1
  have hTab := new_put h now to s hb HP.out ⟨_, hown1⟩ hgrow1
  have hgr := hgrow1
  clear hown1 hgrow1
  obtain ⟨z0, z1, -⟩ := mb_of hTab
  have hT1 := blk_lt hTab.blk
  go_wp2_with (go_at_call 48; refine (request_any T own mac to _ hT1 z0 z1).mono ?_; rintro e w2 ⟨rfl, hb2⟩)
  refine bodyPost_ret (v := .tuple #[.int .i64 0, .slice (some ⟨w2.heap.size, 0, none⟩) 1 1, .int .i64 0]) (by simp [results, Try.results23, go_sem]; try rfl) rfl ?_
  have hs1 : w.heap.size + 2 ≤ w1.heap.size := by have := hgr.size; simpa using this
  have hs2 := hb2.size
  have hN := blk_new w2 (ao 1 own mac to 0)
  refine ⟨_, rfl, arps_one hN, _, (hTab.kept fun k hk => ?_), putP_map R _, ?_, ?_, ?_⟩
  · have hlt := (hTab.lt k hk).2
    exact (Below.heap_alloc w2 _ k (Nat.lt_of_lt_of_le hlt hs2)).trans (hb2.block k hlt)
  · have t1 : Touch (fun k => k ∈ T :: mb :: allB R) w ((w.alloc (.cells #[.string s] 9)).alloc (inco (newE to now s) (.slice (some ⟨w.heap.size, 0, none⟩) 1 1))) := Touch.of (((Below.refl _ w).alloc (Nat.le_refl _) _).alloc (by simp) _)
    have t2 := t1.trans (Touch.grown (S := fun k => k ∈ T :: mb :: allB R) hgr (fun k hk => by cases hk; simp)) (fun k hk => .inl hk)
    have t3 := t2.trans (Touch.of (S := fun k => k ∈ T :: mb :: allB R) hb2) (fun k hk => .inl hk)
    exact t3.trans (Touch.of (S := fun k => k ∈ T :: mb :: allB R) ((Below.refl _ w2).alloc (Nat.le_refl _) _)) (fun k hk => .inl hk)
  · intro k hk
    rcases put_blks hk with hk | hk
    · refine .inr ?_
      simp [PE.blks, Value.ownBlock] at hk
      omega
    · exact .inl hk
  · intro v hv k hk
    obtain rfl : v = _ := by simpa using hv
    obtain rfl : w2.heap.size = k := by simpa [Value.ownBlock] using hk
    refine ⟨by omega, by simp, fun hm => ?_⟩
    have := (hTab.lt _ hm).2
    omega
end Go.Proofs.Ytpkfjlbjahghgaa

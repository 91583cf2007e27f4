/- Contract of the reference's Decode of messages. -/
import Derived.Test.YtpkfjlbjahghgaaArRe
namespace Go.Proofs.Ytpkfjlbjahghgaa
open Go.RowKit
set_option linter.unusedVariables false
attribute [local go_sem] Oper.semAt_some

theorem getV_rd (s : ByteArray) (k b : Nat) (h1 : 1 ≤ b) (h2 : b ≤ 4) (h3 : k + b ≤ s.size) : getV s (k : Int) (b : Int) = rdV s k b := by
  unfold getV rdV
  rw [if_pos (by omega)]
  rfl

theorem getV_dec (s : ByteArray) (h : s.size = 13) : getV s 0 1 = rdV s 0 1 ∧ getV s 1 4 = rdV s 1 4 ∧ getV s 5 2 = rdV s 5 2 ∧ getV s 7 4 = rdV s 7 4 ∧ getV s 11 2 = rdV s 11 2 :=
    ⟨getV_rd s 0 1 (by decide) (by decide) (by omega), getV_rd s 1 4 (by decide) (by decide) (by omega), getV_rd s 5 2 (by decide) (by decide) (by omega), getV_rd s 7 4 (by decide) (by decide) (by omega), getV_rd s 11 2 (by decide) (by decide) (by omega)⟩

theorem dec_iff (s : ByteArray) : (okA (getV s 0 1) (getV s 1 4) (getV s 5 2) (getV s 7 4) (getV s 11 2) ∧ encA (getV s 0 1) (getV s 1 4) (getV s 5 2) (getV s 7 4) (getV s 11 2) = s) ↔ decA s := by
  constructor
  · rintro ⟨h1, h2⟩
    have hs : s.size = 13 := by rw [← h2, encA_size]
    obtain ⟨g1, g2, g3, g4, g5⟩ := getV_dec s hs
    rw [g1, g2, g3, g4, g5] at h1
    exact ⟨hs, h1⟩
  · rintro ⟨hs, h1⟩
    obtain ⟨g1, g2, g3, g4, g5⟩ := getV_dec s hs
    rw [g1, g2, g3, g4, g5]
    exact ⟨h1, enc_decA s hs⟩

/-- what Decode gives -/
def decV (s : ByteArray) : Value := if decA s then av (rdV s 0 1) (rdV s 1 4) (rdV s 5 2) (rdV s 7 4) (rdV s 11 2) else av 0 0 0 0 0
def decE (s : ByteArray) : Int := if decA s then 0 else 50

set_option maxRecDepth 100000 in
set_option maxHeartbeats 4000000 in
theorem rdecA_any (s : ByteArray) (w : World) (hsm : s.size ≤ maxLen) :
    Calls Try.prog 20 #[.string s] w fun e w' => e = .returned (.tuple #[decV s, .int .i64 (decE s)]) ∧ Below w.heap.size w w' := by
  have hI := dec_iff s
  have hR : decA s → av (rdV s 0 1) (rdV s 1 4) (rdV s 5 2) (rdV s 7 4) (rdV s 11 2) = av (getV s 0 1) (getV s 1 4) (getV s 5 2) (getV s 7 4) (getV s 11 2) := fun h => by
    obtain ⟨g1, g2, g3, g4, g5⟩ := getV_dec s h.1
    rw [g1, g2, g3, g4, g5]
  have H0 := fun w => refGet_R s 0 1 w hsm
  have H1 := fun w => refGet_R s 1 4 w hsm
  have H2 := fun w => refGet_R s 5 2 w hsm
  have H3 := fun w => refGet_R s 7 4 w hsm
  have H4 := fun w => refGet_R s 11 2 w hsm
  have hD : decV s = if decA s then av (getV s 0 1) (getV s 1 4) (getV s 5 2) (getV s 7 4) (getV s 11 2) else av 0 0 0 0 0 := by
    unfold decV
    split
    · rename_i h; exact hR h
    · rfl
  have hE : decE s = if decA s then 0 else 50 := rfl
  clear hR
  revert hI H0 H1 H2 H3 H4 hD
  generalize getV s 0 1 = v0
  generalize getV s 1 4 = v1
  generalize getV s 5 2 = v2
  generalize getV s 7 4 = v3
  generalize getV s 11 2 = v4
  generalize getE s 0 1 = e0
  generalize getE s 1 4 = e1
  generalize getE s 5 2 = e2
  generalize getE s 7 4 = e3
  generalize getE s 11 2 = e4
  intro hI H0 H1 H2 H3 H4 hD
  by_cases hok : okA v0 v1 v2 v3 v4
  · by_cases heq : encA v0 v1 v2 v3 v4 = s
    · have hd := hI.1 ⟨hok, heq⟩
      rw [if_pos hd] at hD hE
      rw [hD, hE]
      have HY := fun w => rencA_yes v0 v1 v2 v3 v4 w hok
      rw [heq] at HY
      clear hD hE hI hd hok heq
      go_enter Try.func20, Try.ntmps20
      go_wp2_with (go_at_call 45; first | (refine (H0 _).mono ?_; rintro e w' ⟨rfl, rfl⟩; clear H0) | (refine (H1 _).mono ?_; rintro e w' ⟨rfl, rfl⟩; clear H1) | (refine (H2 _).mono ?_; rintro e w' ⟨rfl, rfl⟩; clear H2) | (refine (H3 _).mono ?_; rintro e w' ⟨rfl, rfl⟩; clear H3) | (refine (H4 _).mono ?_; rintro e w' ⟨rfl, rfl⟩; clear H4))
      refine (HY _).mono ?_
      rintro e w1 ⟨rfl, hb⟩
      clear HY
      have hF := blk_new (w.alloc (ao 0 0 0 0 0)) (ao v0 v1 v2 v3 v4)
      have hZ := blk_alloc (blk_new w (ao 0 0 0 0 0)) (ao v0 v1 v2 v3 v4)
      rw [World.size_alloc] at hF
      have hFb := blk_below hF hb (blk_lt hF)
      have hZb := blk_below hZ hb (blk_lt hZ)
      have hB1 : Below w.heap.size w w1 := ((((Below.refl _ w).alloc (Nat.le_refl _) _).alloc (by simp) _)).trans (hb.mono (by simp; omega))
      have x0 := (blk_cell (k := 0) hFb rfl).1
      have x1 := (blk_cell (k := 1) hFb rfl).1
      have x2 := (blk_cell (k := 2) hFb rfl).1
      have x3 := (blk_cell (k := 3) hFb rfl).1
      have x4 := (blk_cell (k := 4) hFb rfl).1
      have y0 := blk_cell (k := 0) hZb rfl
      have y1 := blk_cell (k := 1) hZb rfl
      have y2 := blk_cell (k := 2) hZb rfl
      have y3 := blk_cell (k := 3) hZb rfl
      have y4 := blk_cell (k := 4) hZb rfl
      simp only [List.getElem_toArray, List.getElem_cons_zero, List.getElem_cons_succ] at x0 x1 x2 x3 x4 y0 y1 y2 y3 y4
      clear hF hZ hFb hb
      go_wp2
      have q1 := set5_res hZb v0 v1 v2 v3 v4
      have g0 := (blk_cell (k := 0) q1 rfl).1
      have g1 := (blk_cell (k := 1) q1 rfl).1
      have g2 := (blk_cell (k := 2) q1 rfl).1
      have g3 := (blk_cell (k := 3) q1 rfl).1
      have g4 := (blk_cell (k := 4) q1 rfl).1
      simp only [List.getElem_toArray, List.getElem_cons_zero, List.getElem_cons_succ] at g0 g1 g2 g3 g4
      have q2 := set5_below hB1 (Nat.le_refl _) v0 v1 v2 v3 v4
      clear q1
      refine bodyPost_ret (v := .tuple #[av v0 v1 v2 v3 v4, .int .i64 0]) (by simp [results, Try.results20, go_sem, g0, g1, g2, g3, g4]; try rfl) rfl ?_
      exact ⟨rfl, q2⟩
    · have hd : ¬ decA s := fun h => heq (hI.2 h).2
      rw [if_neg hd] at hD hE
      rw [hD, hE]
      have HY := fun w => rencA_yes v0 v1 v2 v3 v4 w hok
      obtain ⟨x, hx⟩ : ∃ x, encA v0 v1 v2 v3 v4 = x := ⟨_, rfl⟩
      rw [hx] at HY heq
      have hne2 : ¬ x.toList = s.toList := fun h => heq (ba_ext (by rw [← Lib.toList_data, ← Lib.toList_data, h]))
      have hne3 : (x.toList == s.toList) = false := by simpa using hne2
      clear hx hD hE hI hd hok
      go_enter Try.func20, Try.ntmps20
      go_wp2_with (go_at_call 45; first | (refine (H0 _).mono ?_; rintro e w' ⟨rfl, rfl⟩; clear H0) | (refine (H1 _).mono ?_; rintro e w' ⟨rfl, rfl⟩; clear H1) | (refine (H2 _).mono ?_; rintro e w' ⟨rfl, rfl⟩; clear H2) | (refine (H3 _).mono ?_; rintro e w' ⟨rfl, rfl⟩; clear H3) | (refine (H4 _).mono ?_; rintro e w' ⟨rfl, rfl⟩; clear H4))
      refine (HY _).mono ?_
      rintro e w1 ⟨rfl, hb⟩
      clear HY
      have hF := blk_new (w.alloc (ao 0 0 0 0 0)) (ao v0 v1 v2 v3 v4)
      have hZ := blk_alloc (blk_new w (ao 0 0 0 0 0)) (ao v0 v1 v2 v3 v4)
      rw [World.size_alloc] at hF
      have hFb := blk_below hF hb (blk_lt hF)
      have hZb := blk_below hZ hb (blk_lt hZ)
      have hB1 : Below w.heap.size w w1 := ((((Below.refl _ w).alloc (Nat.le_refl _) _).alloc (by simp) _)).trans (hb.mono (by simp; omega))
      have x0 := (blk_cell (k := 0) hFb rfl).1
      have x1 := (blk_cell (k := 1) hFb rfl).1
      have x2 := (blk_cell (k := 2) hFb rfl).1
      have x3 := (blk_cell (k := 3) hFb rfl).1
      have x4 := (blk_cell (k := 4) hFb rfl).1
      have y0 := blk_cell (k := 0) hZb rfl
      have y1 := blk_cell (k := 1) hZb rfl
      have y2 := blk_cell (k := 2) hZb rfl
      have y3 := blk_cell (k := 3) hZb rfl
      have y4 := blk_cell (k := 4) hZb rfl
      simp only [List.getElem_toArray, List.getElem_cons_zero, List.getElem_cons_succ] at x0 x1 x2 x3 x4 y0 y1 y2 y3 y4
      clear hF hZ hFb hb
      go_wp2
      have q1 := set5_res hZb 0 0 0 0 0
      have g0 := (blk_cell (k := 0) q1 rfl).1
      have g1 := (blk_cell (k := 1) q1 rfl).1
      have g2 := (blk_cell (k := 2) q1 rfl).1
      have g3 := (blk_cell (k := 3) q1 rfl).1
      have g4 := (blk_cell (k := 4) q1 rfl).1
      simp only [List.getElem_toArray, List.getElem_cons_zero, List.getElem_cons_succ] at g0 g1 g2 g3 g4
      have q2 := set5_below hB1 (Nat.le_refl _) 0 0 0 0 0
      clear q1
      refine bodyPost_ret (v := .tuple #[av 0 0 0 0 0, .int .i64 50]) (by simp [results, Try.results20, go_sem, g0, g1, g2, g3, g4]; try rfl) rfl ?_
      exact ⟨rfl, q2⟩
  · have hd : ¬ decA s := fun h => hok (hI.2 h).1
    rw [if_neg hd] at hD hE
    rw [hD, hE]
    have HY := fun w => rencA_no v0 v1 v2 v3 v4 w hok
    clear hD hE hI hd hok
    go_enter Try.func20, Try.ntmps20
    go_wp2_with (go_at_call 45; first | (refine (H0 _).mono ?_; rintro e w' ⟨rfl, rfl⟩; clear H0) | (refine (H1 _).mono ?_; rintro e w' ⟨rfl, rfl⟩; clear H1) | (refine (H2 _).mono ?_; rintro e w' ⟨rfl, rfl⟩; clear H2) | (refine (H3 _).mono ?_; rintro e w' ⟨rfl, rfl⟩; clear H3) | (refine (H4 _).mono ?_; rintro e w' ⟨rfl, rfl⟩; clear H4))
    refine (HY _).mono ?_
    rintro e w1 ⟨rfl, hb⟩
    clear HY
    have hF := blk_new (w.alloc (ao 0 0 0 0 0)) (ao v0 v1 v2 v3 v4)
    have hZ := blk_alloc (blk_new w (ao 0 0 0 0 0)) (ao v0 v1 v2 v3 v4)
    rw [World.size_alloc] at hF
    have hFb := blk_below hF hb (blk_lt hF)
    have hZb := blk_below hZ hb (blk_lt hZ)
    have hB1 : Below w.heap.size w w1 := ((((Below.refl _ w).alloc (Nat.le_refl _) _).alloc (by simp) _)).trans (hb.mono (by simp; omega))
    have x0 := (blk_cell (k := 0) hFb rfl).1
    have x1 := (blk_cell (k := 1) hFb rfl).1
    have x2 := (blk_cell (k := 2) hFb rfl).1
    have x3 := (blk_cell (k := 3) hFb rfl).1
    have x4 := (blk_cell (k := 4) hFb rfl).1
    have y0 := blk_cell (k := 0) hZb rfl
    have y1 := blk_cell (k := 1) hZb rfl
    have y2 := blk_cell (k := 2) hZb rfl
    have y3 := blk_cell (k := 3) hZb rfl
    have y4 := blk_cell (k := 4) hZb rfl
    simp only [List.getElem_toArray, List.getElem_cons_zero, List.getElem_cons_succ] at x0 x1 x2 x3 x4 y0 y1 y2 y3 y4
    clear hF hZ hFb hb
    go_wp2
    have q1 := set5_res hZb 0 0 0 0 0
    have g0 := (blk_cell (k := 0) q1 rfl).1
    have g1 := (blk_cell (k := 1) q1 rfl).1
    have g2 := (blk_cell (k := 2) q1 rfl).1
    have g3 := (blk_cell (k := 3) q1 rfl).1
    have g4 := (blk_cell (k := 4) q1 rfl).1
    simp only [List.getElem_toArray, List.getElem_cons_zero, List.getElem_cons_succ] at g0 g1 g2 g3 g4
    have q2 := set5_below hB1 (Nat.le_refl _) 0 0 0 0 0
    clear q1
    refine bodyPost_ret (v := .tuple #[av 0 0 0 0 0, .int .i64 50]) (by simp [results, Try.results20, go_sem, g0, g1, g2, g3, g4]; try rfl) rfl ?_
    exact ⟨rfl, q2⟩
end Go.Proofs.Ytpkfjlbjahghgaa

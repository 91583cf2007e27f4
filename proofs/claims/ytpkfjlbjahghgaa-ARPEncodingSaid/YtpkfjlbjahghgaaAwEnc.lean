/- The walk of ARPEncoding. -/
import Derived.Test.YtpkfjlbjahghgaaAtSane
import Derived.Test.YtpkfjlbjahghgaaAlaid2
import Derived.Test.YtpkfjlbjahghgaaAwBy
import Derived.Test.YtpkfjlbjahghgaaArEnc
import Derived.Deep.RegionHeld3
import Derived.BigRegion
namespace Go.Proofs.Ytpkfjlbjahghgaa
open Go.RowKit Go.Maps
set_option linter.unusedVariables false
attribute [local go_sem] Oper.semAt_some

def eS (o f m t n : Int) : ByteArray := if okA o f m t n then encA o f m t n else ByteArray.empty
def eE (o f m t n : Int) : Int := if okA o f m t n then 0 else 50
theorem encode_tot (o f m t n : Int) (w : World) :
    Calls Try.prog 14 #[av o f m t n] w fun e w' => e = .returned (.tuple #[.string (eS o f m t n), .int .i64 (eE o f m t n)]) ∧ Below w.heap.size w w' := by
  unfold eS eE
  by_cases h : okA o f m t n
  · rw [if_pos h, if_pos h]; exact encode_yes o f m t n w h
  · rw [if_neg h, if_neg h]; exact encode_no o f m t n w h
theorem rencode_tot (o f m t n : Int) (w : World) :
    Calls Try.prog 15 #[av o f m t n] w fun e w' => e = .returned (.tuple #[.string (eS o f m t n), .int .i64 (eE o f m t n)]) ∧ Below w.heap.size w w' := by
  unfold eS eE
  by_cases h : okA o f m t n
  · rw [if_pos h, if_pos h]; exact rencA_yes o f m t n w h
  · rw [if_neg h, if_neg h]; exact rencA_no o f m t n w h
theorem kc2 {W w' : World} {a : Addr} {v : Value} (hb : Below W.heap.size W w') (h : W.cell? a = some v) : w'.cell? a = some v := (hb.cell (World.block_lt_of_cell? _ _ h)).trans h

abbrev EnS (W : World) (xo xf xm xt xn ck ca cm ct co : Int) (cs2 : ByteArray) (ci y1 y2 y3 y4 y5 : Int) (w' : World) : Prop := (w'.cell? ⟨W.heap.size, 0, none⟩ = some (.int .i64 xo) ∧ w'.cell? ⟨W.heap.size, 1, none⟩ = some (.int .i64 xf) ∧ w'.cell? ⟨W.heap.size, 2, none⟩ = some (.int .i64 xm) ∧ w'.cell? ⟨W.heap.size, 3, none⟩ = some (.int .i64 xt) ∧ w'.cell? ⟨W.heap.size, 4, none⟩ = some (.int .i64 xn)) ∧ (w'.cell? ⟨W.heap.size + 1, 0, none⟩ = some (.int .u8 ck) ∧ w'.cell? ⟨W.heap.size + 1, 1, none⟩ = some (.int .i64 ca) ∧ w'.cell? ⟨W.heap.size + 1, 2, none⟩ = some (.int .i64 cm) ∧ w'.cell? ⟨W.heap.size + 1, 3, none⟩ = some (.int .i64 ct) ∧ w'.cell? ⟨W.heap.size + 1, 4, none⟩ = some (.int .i64 co) ∧ w'.cell? ⟨W.heap.size + 1, 5, none⟩ = some (.string cs2) ∧ w'.cell? ⟨W.heap.size + 1, 6, none⟩ = some (.int .i64 ci) ∧ w'.cell? ⟨W.heap.size + 1, 7, none⟩ = some (.int .i64 y1) ∧ w'.cell? ⟨W.heap.size + 1, 8, none⟩ = some (.int .i64 y2) ∧ w'.cell? ⟨W.heap.size + 1, 9, none⟩ = some (.int .i64 y3) ∧ w'.cell? ⟨W.heap.size + 1, 10, none⟩ = some (.int .i64 y4) ∧ w'.cell? ⟨W.heap.size + 1, 11, none⟩ = some (.int .i64 y5))
theorem EnS.al {W w1 : World} {xo xf xm xt xn ck ca cm ct co : Int} {cs2 : ByteArray} {ci y1 y2 y3 y4 y5 : Int} (h : EnS W xo xf xm xt xn ck ca cm ct co cs2 ci y1 y2 y3 y4 y5 w1) (o : Obj) : EnS W xo xf xm xt xn ck ca cm ct co cs2 ci y1 y2 y3 y4 y5 (w1.alloc o) :=
  ⟨⟨cell_alloc h.1.1 o, cell_alloc h.1.2.1 o, cell_alloc h.1.2.2.1 o, cell_alloc h.1.2.2.2.1 o, cell_alloc h.1.2.2.2.2 o⟩, ⟨cell_alloc h.2.1 o, cell_alloc h.2.2.1 o, cell_alloc h.2.2.2.1 o, cell_alloc h.2.2.2.2.1 o, cell_alloc h.2.2.2.2.2.1 o, cell_alloc h.2.2.2.2.2.2.1 o, cell_alloc h.2.2.2.2.2.2.2.1 o, cell_alloc h.2.2.2.2.2.2.2.2.1 o, cell_alloc h.2.2.2.2.2.2.2.2.2.1 o, cell_alloc h.2.2.2.2.2.2.2.2.2.2.1 o, cell_alloc h.2.2.2.2.2.2.2.2.2.2.2.1 o, cell_alloc h.2.2.2.2.2.2.2.2.2.2.2.2 o⟩⟩
theorem EnS.be {W w1 w2 : World} {xo xf xm xt xn ck ca cm ct co : Int} {cs2 : ByteArray} {ci y1 y2 y3 y4 y5 : Int} (h : EnS W xo xf xm xt xn ck ca cm ct co cs2 ci y1 y2 y3 y4 y5 w1) (hb : Below w1.heap.size w1 w2) : EnS W xo xf xm xt xn ck ca cm ct co cs2 ci y1 y2 y3 y4 y5 w2 :=
  ⟨⟨kc2 hb h.1.1, kc2 hb h.1.2.1, kc2 hb h.1.2.2.1, kc2 hb h.1.2.2.2.1, kc2 hb h.1.2.2.2.2⟩, ⟨kc2 hb h.2.1, kc2 hb h.2.2.1, kc2 hb h.2.2.2.1, kc2 hb h.2.2.2.2.1, kc2 hb h.2.2.2.2.2.1, kc2 hb h.2.2.2.2.2.2.1, kc2 hb h.2.2.2.2.2.2.2.1, kc2 hb h.2.2.2.2.2.2.2.2.1, kc2 hb h.2.2.2.2.2.2.2.2.2.1, kc2 hb h.2.2.2.2.2.2.2.2.2.2.1, kc2 hb h.2.2.2.2.2.2.2.2.2.2.2.1, kc2 hb h.2.2.2.2.2.2.2.2.2.2.2.2⟩⟩

theorem six (W : World) (B : Nat) (y0 y1 y2 y3 y4 y5 : ByteArray) (m : Nat) (h0 : y0.size ≤ m) (h1 : y1.size ≤ m) (h2 : y2.size ≤ m) (h3 : y3.size ≤ m) (h4 : y4.size ≤ m) (h5 : y5.size ≤ m)
    (hb : W.heap[B]? = some (.cells #[.string y0, .string y1, .string y2, .string y3, .string y4, .string y5] 9)) : ∀ j : Nat, j < 6 → ∃ y, W.cell? ⟨B, j, none⟩ = some (.string y) ∧ y.size ≤ m := by
  intro j hj
  match j, hj with
  | 0, _ => exact ⟨_, (blk_cell (k := 0) hb rfl).1, h0⟩
  | 1, _ => exact ⟨_, (blk_cell (k := 1) hb rfl).1, h1⟩
  | 2, _ => exact ⟨_, (blk_cell (k := 2) hb rfl).1, h2⟩
  | 3, _ => exact ⟨_, (blk_cell (k := 3) hb rfl).1, h3⟩
  | 4, _ => exact ⟨_, (blk_cell (k := 4) hb rfl).1, h4⟩
  | 5, _ => exact ⟨_, (blk_cell (k := 5) hb rfl).1, h5⟩
  | j + 6, h => omega
theorem six_blk (W : World) {B : Nat} (y0 y1 y2 y3 y4 y5 : ByteArray) (hB : W.heap.size = B) :
    (W.alloc (.cells #[.string y0, .string y1, .string y2, .string y3, .string y4, .string y5] 9)).drew.heap[B]? = some (.cells #[.string y0, .string y1, .string y2, .string y3, .string y4, .string y5] 9) := by
  rw [← hB]; exact blk_new W _

set_option maxRecDepth 100000 in
set_option maxHeartbeats 8000000 in
theorem walk_ARPEncoding (x : Mg) (c : Cl) (s : ByteArray) (atz by_ : Int) (W : World) (hx : x.ok) (hc : c.ok) (hs : s.size ≤ maxLen) (a1 : -9223372036854775808 ≤ atz) (a2 : atz ≤ 9223372036854775807) (hby : (Lit.int .u8 by_).wf = true) :
    Calls Try.prog 3 #[mgv x, clv c, .string s, .int .i64 atz, .int .u8 by_] W fun e W' => e = .returned (.bool true) ∧ Below W.heap.size W W' := by
  have HM0 := fun w => message_any c hc w
  have hmo := msg_ok c
  obtain ⟨xo, xf, xm, xt, xn⟩ := x
  have HMv : ∃ mo mf mm mt mn, okA mo mf mm mt mn ∧ ∀ w, Calls Try.prog 13 #[clv c] w fun e w' => e = .returned (av mo mf mm mt mn) ∧ Below w.heap.size w w' := ⟨_, _, _, _, _, hmo, HM0⟩
  obtain ⟨mo, mf, mm, mt, mn, hmok, HMv⟩ := HMv
  obtain ⟨ck, ca, cm, ct, co, cs2, ci, y1, y2, y3, y4, y5⟩ := c
  have HM := Lib.hid HMv
  have HMB := Lib.hid HMv
  clear HM0 HMv hmo hx hc
  go_enter Try.func3, Try.ntmps3
  go_wp2_with fail
  refine (sanity_any _).mono ?_
  rintro e w1 ⟨rfl, hb1⟩
  have hB1 : Below W.heap.size W w1 := (((Below.refl _ W).alloc (Nat.le_refl _) _).alloc (by simp) _).trans (hb1.mono (by simp; omega))
  have hA1 := blk_below (blk_alloc (blk_new W (ao xo xf xm xt xn)) (clo ⟨ck, ca, cm, ct, co, cs2, ci, y1, y2, y3, y4, y5⟩)) hb1 (by simp; omega)
  have hC1 := blk_new (W.alloc (ao xo xf xm xt xn)) (clo ⟨ck, ca, cm, ct, co, cs2, ci, y1, y2, y3, y4, y5⟩)
  have hC1 := blk_below hC1 hb1 (blk_lt hC1)
  rw [World.size_alloc] at hC1
  have hE1 : EnS W xo xf xm xt xn ck ca cm ct co cs2 ci y1 y2 y3 y4 y5 w1.drew := ⟨⟨(blk_cell (k := 0) hA1 rfl).1, (blk_cell (k := 1) hA1 rfl).1, (blk_cell (k := 2) hA1 rfl).1, (blk_cell (k := 3) hA1 rfl).1, (blk_cell (k := 4) hA1 rfl).1⟩, ⟨(blk_cell (k := 0) hC1 rfl).1, (blk_cell (k := 1) hC1 rfl).1, (blk_cell (k := 2) hC1 rfl).1, (blk_cell (k := 3) hC1 rfl).1, (blk_cell (k := 4) hC1 rfl).1, (blk_cell (k := 5) hC1 rfl).1, (blk_cell (k := 6) hC1 rfl).1, (blk_cell (k := 7) hC1 rfl).1, (blk_cell (k := 8) hC1 rfl).1, (blk_cell (k := 9) hC1 rfl).1, (blk_cell (k := 10) hC1 rfl).1, (blk_cell (k := 11) hC1 rfl).1⟩⟩
  clear hb1
  go_wp2_with fail
  refine wp_region_noPanic ?_
  refine wp_region_held_drew (S := fun w' => EnS W xo xf xm xt xn ck ca cm ct co cs2 ci y1 y2 y3 y4 y5 w') (by kernel_rfl) (hE1) (fun hHeld => ?_)
  first
    | (refine wpAnyH_take (i := 0) (oi := ⟨some 29, _, _, _, _, _⟩) (v := ?v0) rfl (by kernel_rfl) (by kernel_rfl) (by kernel_rfl) (fun _ _ _ h => h) (Or.inl ⟨by rfl, ?hy0⟩) hHeld ?rr0
       case hy0 => (intro w hSw; (try dsimp only at hSw); go_simp; try with_reducible rfl))
    | (refine wpAnyH_take (i := 0) (oi := ⟨some 29, _, _, _, _, _⟩) (v := undef) rfl (by kernel_rfl) (by kernel_rfl) (by kernel_rfl) (fun _ _ _ h => h) (Or.inr ⟨by rfl, rfl⟩) hHeld ?rr0)
  try simp only [Act.put, List.setIfInBounds_toArray, List.set_cons_zero, List.set_cons_succ]
  first
    | (refine wpAnyH_take (i := 1) (oi := ⟨some 30, _, _, _, _, _⟩) (v := ?v1) rfl (by kernel_rfl) (by kernel_rfl) (by kernel_rfl) (fun _ _ _ h => h) (Or.inl ⟨by rfl, ?hy1⟩) hHeld ?rr1
       case hy1 => (intro w hSw; (try dsimp only at hSw); go_simp; try with_reducible rfl))
    | (refine wpAnyH_take (i := 1) (oi := ⟨some 30, _, _, _, _, _⟩) (v := undef) rfl (by kernel_rfl) (by kernel_rfl) (by kernel_rfl) (fun _ _ _ h => h) (Or.inr ⟨by rfl, rfl⟩) hHeld ?rr1)
  try simp only [Act.put, List.setIfInBounds_toArray, List.set_cons_zero, List.set_cons_succ]
  first
    | (refine wpAnyH_take (i := 5) (oi := ⟨some 34, _, _, _, _, _⟩) (v := ?v5) rfl (by kernel_rfl) (by kernel_rfl) (by kernel_rfl) (fun _ _ _ h => h) (Or.inl ⟨by rfl, ?hy5⟩) hHeld ?rr5
       case hy5 => (intro w hSw; (try dsimp only at hSw); go_simp; try with_reducible rfl))
    | (refine wpAnyH_take (i := 5) (oi := ⟨some 34, _, _, _, _, _⟩) (v := undef) rfl (by kernel_rfl) (by kernel_rfl) (by kernel_rfl) (fun _ _ _ h => h) (Or.inr ⟨by rfl, rfl⟩) hHeld ?rr5)
  try simp only [Act.put, List.setIfInBounds_toArray, List.set_cons_zero, List.set_cons_succ]
  refine wpAnyH_ready (rs := [2]) (by kernel_rfl) (by simp) ?_
  refine AllReadyH.cons (o := ⟨some 31, _, _, _, _, _⟩) rfl (fun K hK => ?_) AllReadyH.nil
  go_simp
  go_at_call 13
  refine (HM.out _).mono ?_
  rintro e w2 ⟨rfl, hb2⟩
  clear HM
  refine hK.out _ _ (hE1.be hb2) (fun hHeld2 => ?_)
  clear hK K hHeld
  have hHeld := hHeld2
  clear hHeld2
  try simp only [Act.put, List.setIfInBounds_toArray, List.set_cons_zero, List.set_cons_succ]
  refine wpAnyH_ready (rs := [3]) (by kernel_rfl) (by simp) ?_
  refine AllReadyH.cons (o := ⟨some 32, _, _, _, _, _⟩) rfl (fun K hK => ?_) AllReadyH.nil
  go_simp
  refine hK.out _ _ ((hE1.be hb2).al _) (fun hHeld2 => ?_)
  clear hK K hHeld
  have hHeld := hHeld2
  clear hHeld2
  try simp only [Act.put, List.setIfInBounds_toArray, List.set_cons_zero, List.set_cons_succ]
  first
    | (refine wpAnyH_take (i := 4) (oi := ⟨some 33, _, _, _, _, _⟩) (v := ?v4) rfl (by kernel_rfl) (by kernel_rfl) (by kernel_rfl) (fun _ _ _ h => h) (Or.inl ⟨by rfl, ?hy4⟩) hHeld ?rr4
       case hy4 => (intro w hSw; (try dsimp only at hSw); go_simp; try with_reducible rfl))
    | (refine wpAnyH_take (i := 4) (oi := ⟨some 33, _, _, _, _, _⟩) (v := undef) rfl (by kernel_rfl) (by kernel_rfl) (by kernel_rfl) (fun _ _ _ h => h) (Or.inr ⟨by rfl, rfl⟩) hHeld ?rr4)
  try simp only [Act.put, List.setIfInBounds_toArray, List.set_cons_zero, List.set_cons_succ]
  refine wpAnyH_done (by kernel_rfl) ?_ _
  refine NoPanic.normal ?_
  have hR3 := blk_new w2 (.cells #[.int .i64 xo, .int .i64 xf, .int .i64 xm, .int .i64 xt, .int .i64 xn, .int .i64 mo, .int .i64 mf, .int .i64 mm, .int .i64 mt, .int .i64 mn] 23)
  have hw12 : Below W.heap.size W w2 := hB1.trans ((((Below.refl _ w1).drew).trans hb2).mono hB1.size)
  have hB3 := hw12.alloc hw12.size (.cells #[.int .i64 xo, .int .i64 xf, .int .i64 xm, .int .i64 xt, .int .i64 xn, .int .i64 mo, .int .i64 mf, .int .i64 mm, .int .i64 mt, .int .i64 mn] 23)
  have hE3 := hHeld
  revert hR3 hB3 hE3
  clear hHeld hw12 hB1 hE1 hA1 hC1
  obtain ⟨B, hBB⟩ : ∃ B, w2.heap.size = B := ⟨_, rfl⟩
  rw [hBB]
  generalize w2.alloc (.cells #[.int .i64 xo, .int .i64 xf, .int .i64 xm, .int .i64 xt, .int .i64 xn, .int .i64 mo, .int .i64 mf, .int .i64 mm, .int .i64 mt, .int .i64 mn] 23) = W3
  intro hR3 hB3 hE3
  clear hBB hb2
  have hrow : ∀ k, k < 2 → ∃ v0 v1 v2 v3 v4, W3.cell? ⟨B, k * 5, none⟩ = some (.int .i64 v0) ∧ W3.cell? ⟨B, k * 5 + 1, none⟩ = some (.int .i64 v1) ∧ W3.cell? ⟨B, k * 5 + 2, none⟩ = some (.int .i64 v2) ∧ W3.cell? ⟨B, k * 5 + 3, none⟩ = some (.int .i64 v3) ∧ W3.cell? ⟨B, k * 5 + 4, none⟩ = some (.int .i64 v4) := by
    intro k hk
    have : k = 0 ∨ k = 1 := by omega
    rcases this with rfl | rfl
    · exact ⟨_, _, _, _, _, (blk_cell (k := 0) hR3 rfl).1, (blk_cell (k := 1) hR3 rfl).1, (blk_cell (k := 2) hR3 rfl).1, (blk_cell (k := 3) hR3 rfl).1, (blk_cell (k := 4) hR3 rfl).1⟩
    · exact ⟨_, _, _, _, _, (blk_cell (k := 5) hR3 rfl).1, (blk_cell (k := 6) hR3 rfl).1, (blk_cell (k := 7) hR3 rfl).1, (blk_cell (k := 8) hR3 rfl).1, (blk_cell (k := 9) hR3 rfl).1⟩
  have HR := Lib.hid hrow
  have HB3 := Lib.hid hB3
  have HE3 := Lib.hid hE3
  clear hR3 hB3 hE3 hrow
  go_wp2_with fail
  go_loopw [34] (fun iv wr => ∃ (k : Nat), k ≤ 2 ∧ iv = .int .i64 k ∧ Hid (Below W3.heap.size W3 wr)) (fun i _ => 2 - (intOf i).toNat)
  case atStart => exact ⟨0, by omega, rfl, Lib.hid (Below.refl _ _)⟩
  case round =>
    obtain ⟨k, hk2, rfl, hB⟩ := hrel
    by_cases h : k < 2
    · obtain ⟨v0, v1, v2, v3, v4, g0, g1, g2, g3, g4⟩ := HR.out k h
      replace g0 := kc2 hB.out g0
      replace g1 := kc2 hB.out g1
      replace g2 := kc2 hB.out g2
      replace g3 := kc2 hB.out g3
      replace g4 := kc2 hB.out g4
      have H1 := fun w => Lib.hid (encode_tot v0 v1 v2 v3 v4 w)
      have H2 := fun w => Lib.hid (rencode_tot v0 v1 v2 v3 v4 w)
      obtain ⟨X, hX⟩ : ∃ X, eS v0 v1 v2 v3 v4 = X := ⟨_, rfl⟩
      obtain ⟨E, hE⟩ : ∃ X, eE v0 v1 v2 v3 v4 = X := ⟨_, rfl⟩
      rw [hX, hE] at H1 H2
      clear hX hE HR
      go_wp2_with fail
      refine (H1 _).out.mono ?_
      rintro e w5 ⟨rfl, hb5⟩
      have hN5 := blk_below (blk_new wr (ao v0 v1 v2 v3 v4)) hb5 (by simp)
      have hBw5 : Below wr.heap.size wr w5 := ((Below.refl _ wr).alloc (Nat.le_refl _) _).trans (hb5.mono (by simp))
      have c0 : w5.cell? ⟨wr.heap.size, 0, none⟩ = some (.int .i64 v0) := (blk_cell (k := 0) hN5 rfl).1
      have c1 : w5.cell? ⟨wr.heap.size, 1, none⟩ = some (.int .i64 v1) := (blk_cell (k := 1) hN5 rfl).1
      have c2 : w5.cell? ⟨wr.heap.size, 2, none⟩ = some (.int .i64 v2) := (blk_cell (k := 2) hN5 rfl).1
      have c3 : w5.cell? ⟨wr.heap.size, 3, none⟩ = some (.int .i64 v3) := (blk_cell (k := 3) hN5 rfl).1
      have c4 : w5.cell? ⟨wr.heap.size, 4, none⟩ = some (.int .i64 v4) := (blk_cell (k := 4) hN5 rfl).1
      clear hb5 H1 g0 g1 g2 g3 g4
      go_wp2_with fail
      refine (H2 _).out.mono ?_
      rintro e w6 ⟨rfl, hb6⟩
      have hN6 := blk_below hN5 hb6 (blk_lt hN5)
      have hBw6 := hBw5.trans (hb6.mono hBw5.size)
      clear hb6 H2 hBw5 hN5 c0 c1 c2 c3 c4
      go_wp2_with fail
      have b0 : w6.drew.cell? ⟨wr.heap.size, 0, none⟩ = some (.int .i64 v0) := (blk_cell (k := 0) hN6 rfl).1
      have b1 : w6.drew.cell? ⟨wr.heap.size, 1, none⟩ = some (.int .i64 v1) := (blk_cell (k := 1) hN6 rfl).1
      have b2 : w6.drew.cell? ⟨wr.heap.size, 2, none⟩ = some (.int .i64 v2) := (blk_cell (k := 2) hN6 rfl).1
      have b3 : w6.drew.cell? ⟨wr.heap.size, 3, none⟩ = some (.int .i64 v3) := (blk_cell (k := 3) hN6 rfl).1
      have b4 : w6.drew.cell? ⟨wr.heap.size, 4, none⟩ = some (.int .i64 v4) := (blk_cell (k := 4) hN6 rfl).1
      refine wp_region_noPanic ?_
      refine wp_region_held_drew (S := fun w' => w'.cell? ⟨wr.heap.size, 0, none⟩ = some (.int .i64 v0) ∧ w'.cell? ⟨wr.heap.size, 1, none⟩ = some (.int .i64 v1) ∧ w'.cell? ⟨wr.heap.size, 2, none⟩ = some (.int .i64 v2) ∧ w'.cell? ⟨wr.heap.size, 3, none⟩ = some (.int .i64 v3) ∧ w'.cell? ⟨wr.heap.size, 4, none⟩ = some (.int .i64 v4)) (by kernel_rfl) (⟨b0, b1, b2, b3, b4⟩) (fun hHeld => ?_)
      first
        | (refine wpAnyH_take (i := 0) (oi := ⟨some 48, _, _, _, _, _⟩) (v := ?vs0) rfl (by kernel_rfl) (by kernel_rfl) (by kernel_rfl) (fun _ _ _ h => h) (Or.inl ⟨by rfl, ?hys0⟩) hHeld ?rrs0
           case hys0 => (intro w hSw; (try dsimp only at hSw); go_simp; try with_reducible rfl))
        | (refine wpAnyH_take (i := 0) (oi := ⟨some 48, _, _, _, _, _⟩) (v := undef) rfl (by kernel_rfl) (by kernel_rfl) (by kernel_rfl) (fun _ _ _ h => h) (Or.inr ⟨by rfl, rfl⟩) hHeld ?rrs0)
      try simp only [Act.put, List.setIfInBounds_toArray, List.set_cons_zero, List.set_cons_succ]
      first
        | (refine wpAnyH_take (i := 1) (oi := ⟨some 49, _, _, _, _, _⟩) (v := ?vs1) rfl (by kernel_rfl) (by kernel_rfl) (by kernel_rfl) (fun _ _ _ h => h) (Or.inl ⟨by rfl, ?hys1⟩) hHeld ?rrs1
           case hys1 => (intro w hSw; (try dsimp only at hSw); go_simp; try with_reducible rfl))
        | (refine wpAnyH_take (i := 1) (oi := ⟨some 49, _, _, _, _, _⟩) (v := undef) rfl (by kernel_rfl) (by kernel_rfl) (by kernel_rfl) (fun _ _ _ h => h) (Or.inr ⟨by rfl, rfl⟩) hHeld ?rrs1)
      try simp only [Act.put, List.setIfInBounds_toArray, List.set_cons_zero, List.set_cons_succ]
      first
        | (refine wpAnyH_take (i := 2) (oi := ⟨some 50, _, _, _, _, _⟩) (v := ?vs2) rfl (by kernel_rfl) (by kernel_rfl) (by kernel_rfl) (fun _ _ _ h => h) (Or.inl ⟨by rfl, ?hys2⟩) hHeld ?rrs2
           case hys2 => (intro w hSw; (try dsimp only at hSw); go_simp; try with_reducible rfl))
        | (refine wpAnyH_take (i := 2) (oi := ⟨some 50, _, _, _, _, _⟩) (v := undef) rfl (by kernel_rfl) (by kernel_rfl) (by kernel_rfl) (fun _ _ _ h => h) (Or.inr ⟨by rfl, rfl⟩) hHeld ?rrs2)
      try simp only [Act.put, List.setIfInBounds_toArray, List.set_cons_zero, List.set_cons_succ]
      first
        | (refine wpAnyH_take (i := 3) (oi := ⟨some 51, _, _, _, _, _⟩) (v := ?vs3) rfl (by kernel_rfl) (by kernel_rfl) (by kernel_rfl) (fun _ _ _ h => h) (Or.inl ⟨by rfl, ?hys3⟩) hHeld ?rrs3
           case hys3 => (intro w hSw; (try dsimp only at hSw); go_simp; try with_reducible rfl))
        | (refine wpAnyH_take (i := 3) (oi := ⟨some 51, _, _, _, _, _⟩) (v := undef) rfl (by kernel_rfl) (by kernel_rfl) (by kernel_rfl) (fun _ _ _ h => h) (Or.inr ⟨by rfl, rfl⟩) hHeld ?rrs3)
      try simp only [Act.put, List.setIfInBounds_toArray, List.set_cons_zero, List.set_cons_succ]
      first
        | (refine wpAnyH_take (i := 4) (oi := ⟨some 52, _, _, _, _, _⟩) (v := ?vs4) rfl (by kernel_rfl) (by kernel_rfl) (by kernel_rfl) (fun _ _ _ h => h) (Or.inl ⟨by rfl, ?hys4⟩) hHeld ?rrs4
           case hys4 => (intro w hSw; (try dsimp only at hSw); go_simp; try with_reducible rfl))
        | (refine wpAnyH_take (i := 4) (oi := ⟨some 52, _, _, _, _, _⟩) (v := undef) rfl (by kernel_rfl) (by kernel_rfl) (by kernel_rfl) (fun _ _ _ h => h) (Or.inr ⟨by rfl, rfl⟩) hHeld ?rrs4)
      try simp only [Act.put, List.setIfInBounds_toArray, List.set_cons_zero, List.set_cons_succ]
      first
        | (refine wpAnyH_take (i := 5) (oi := ⟨some 53, _, _, _, _, _⟩) (v := ?vs5) rfl (by kernel_rfl) (by kernel_rfl) (by kernel_rfl) (fun _ _ _ h => h) (Or.inl ⟨by rfl, ?hys5⟩) hHeld ?rrs5
           case hys5 => (intro w hSw; (try dsimp only at hSw); go_simp; try with_reducible rfl))
        | (refine wpAnyH_take (i := 5) (oi := ⟨some 53, _, _, _, _, _⟩) (v := undef) rfl (by kernel_rfl) (by kernel_rfl) (by kernel_rfl) (fun _ _ _ h => h) (Or.inr ⟨by rfl, rfl⟩) hHeld ?rrs5)
      try simp only [Act.put, List.setIfInBounds_toArray, List.set_cons_zero, List.set_cons_succ]
      first
        | (refine wpAnyH_take (i := 6) (oi := ⟨some 54, _, _, _, _, _⟩) (v := ?vs6) rfl (by kernel_rfl) (by kernel_rfl) (by kernel_rfl) (fun _ _ _ h => h) (Or.inl ⟨by rfl, ?hys6⟩) hHeld ?rrs6
           case hys6 => (intro w hSw; (try dsimp only at hSw); go_simp; try with_reducible rfl))
        | (refine wpAnyH_take (i := 6) (oi := ⟨some 54, _, _, _, _, _⟩) (v := undef) rfl (by kernel_rfl) (by kernel_rfl) (by kernel_rfl) (fun _ _ _ h => h) (Or.inr ⟨by rfl, rfl⟩) hHeld ?rrs6)
      try simp only [Act.put, List.setIfInBounds_toArray, List.set_cons_zero, List.set_cons_succ]
      first
        | (refine wpAnyH_take (i := 7) (oi := ⟨some 55, _, _, _, _, _⟩) (v := ?vs7) rfl (by kernel_rfl) (by kernel_rfl) (by kernel_rfl) (fun _ _ _ h => h) (Or.inl ⟨by rfl, ?hys7⟩) hHeld ?rrs7
           case hys7 => (intro w hSw; (try dsimp only at hSw); go_simp; try with_reducible rfl))
        | (refine wpAnyH_take (i := 7) (oi := ⟨some 55, _, _, _, _, _⟩) (v := undef) rfl (by kernel_rfl) (by kernel_rfl) (by kernel_rfl) (fun _ _ _ h => h) (Or.inr ⟨by rfl, rfl⟩) hHeld ?rrs7)
      try simp only [Act.put, List.setIfInBounds_toArray, List.set_cons_zero, List.set_cons_succ]
      first
        | (refine wpAnyH_take (i := 8) (oi := ⟨some 56, _, _, _, _, _⟩) (v := ?vs8) rfl (by kernel_rfl) (by kernel_rfl) (by kernel_rfl) (fun _ _ _ h => h) (Or.inl ⟨by rfl, ?hys8⟩) hHeld ?rrs8
           case hys8 => (intro w hSw; (try dsimp only at hSw); go_simp; try with_reducible rfl))
        | (refine wpAnyH_take (i := 8) (oi := ⟨some 56, _, _, _, _, _⟩) (v := undef) rfl (by kernel_rfl) (by kernel_rfl) (by kernel_rfl) (fun _ _ _ h => h) (Or.inr ⟨by rfl, rfl⟩) hHeld ?rrs8)
      try simp only [Act.put, List.setIfInBounds_toArray, List.set_cons_zero, List.set_cons_succ]
      first
        | (refine wpAnyH_take (i := 9) (oi := ⟨some 57, _, _, _, _, _⟩) (v := ?vs9) rfl (by kernel_rfl) (by kernel_rfl) (by kernel_rfl) (fun _ _ _ h => h) (Or.inl ⟨by rfl, ?hys9⟩) hHeld ?rrs9
           case hys9 => (intro w hSw; (try dsimp only at hSw); go_simp; try with_reducible rfl))
        | (refine wpAnyH_take (i := 9) (oi := ⟨some 57, _, _, _, _, _⟩) (v := undef) rfl (by kernel_rfl) (by kernel_rfl) (by kernel_rfl) (fun _ _ _ h => h) (Or.inr ⟨by rfl, rfl⟩) hHeld ?rrs9)
      try simp only [Act.put, List.setIfInBounds_toArray, List.set_cons_zero, List.set_cons_succ]
      first
        | (refine wpAnyH_take (i := 11) (oi := ⟨some 59, _, _, _, _, _⟩) (v := ?vs11) rfl (by kernel_rfl) (by kernel_rfl) (by kernel_rfl) (fun _ _ _ h => h) (Or.inl ⟨by rfl, ?hys11⟩) hHeld ?rrs11
           case hys11 => (intro w hSw; (try dsimp only at hSw); go_simp; try with_reducible rfl))
        | (refine wpAnyH_take (i := 11) (oi := ⟨some 59, _, _, _, _, _⟩) (v := undef) rfl (by kernel_rfl) (by kernel_rfl) (by kernel_rfl) (fun _ _ _ h => h) (Or.inr ⟨by rfl, rfl⟩) hHeld ?rrs11)
      try simp only [Act.put, List.setIfInBounds_toArray, List.set_cons_zero, List.set_cons_succ]
      refine wpAnyH_ready (rs := [10]) (by kernel_rfl) (by simp) ?_
      refine AllReadyH.cons (o := ⟨some 58, _, _, _, _, _⟩) rfl (fun K hK => ?_) AllReadyH.nil
      go_simp
      go_at_call 16
      refine (valid_any v0 v1 v2 v3 v4 _).mono ?_
      rintro e w7 ⟨rfl, rfl⟩
      refine hK.out _ _ (⟨cell_alloc b0 _, cell_alloc b1 _, cell_alloc b2 _, cell_alloc b3 _, cell_alloc b4 _⟩) (fun hHeld2 => ?_)
      clear hK K hHeld
      have hHeld := hHeld2
      clear hHeld2
      try simp only [Act.put, List.setIfInBounds_toArray, List.set_cons_zero, List.set_cons_succ]
      refine wpAnyH_ready (rs := [12]) (by kernel_rfl) (by simp) ?_
      refine AllReadyH.cons (o := ⟨some 60, _, _, _, _, _⟩) rfl (fun K hK => ?_) AllReadyH.nil
      go_simp
      go_at_call 17
      refine (rvalidA_any v0 v1 v2 v3 v4 _).mono ?_
      rintro e w8 ⟨rfl, rfl⟩
      refine hK.out _ _ (⟨cell_alloc (cell_alloc b0 _) _, cell_alloc (cell_alloc b1 _) _, cell_alloc (cell_alloc b2 _) _, cell_alloc (cell_alloc b3 _) _, cell_alloc (cell_alloc b4 _) _⟩) (fun hHeld2 => ?_)
      clear hK K hHeld
      have hHeld := hHeld2
      clear hHeld2
      try simp only [Act.put, List.setIfInBounds_toArray, List.set_cons_zero, List.set_cons_succ]
      first
        | (refine wpAnyH_take (i := 13) (oi := ⟨some 61, _, _, _, _, _⟩) (v := ?vs13) rfl (by kernel_rfl) (by kernel_rfl) (by kernel_rfl) (fun _ _ _ h => h) (Or.inl ⟨by rfl, ?hys13⟩) hHeld ?rrs13
           case hys13 => (intro w hSw; (try dsimp only at hSw); go_simp; try with_reducible rfl))
        | (refine wpAnyH_take (i := 13) (oi := ⟨some 61, _, _, _, _, _⟩) (v := undef) rfl (by kernel_rfl) (by kernel_rfl) (by kernel_rfl) (fun _ _ _ h => h) (Or.inr ⟨by rfl, rfl⟩) hHeld ?rrs13)
      try simp only [Act.put, List.setIfInBounds_toArray, List.set_cons_zero, List.set_cons_succ]
      first
        | (refine wpAnyH_take (i := 14) (oi := ⟨some 62, _, _, _, _, _⟩) (v := ?vs14) rfl (by kernel_rfl) (by kernel_rfl) (by kernel_rfl) (fun _ _ _ h => h) (Or.inl ⟨by rfl, ?hys14⟩) hHeld ?rrs14
           case hys14 => (intro w hSw; (try dsimp only at hSw); go_simp; try with_reducible rfl))
        | (refine wpAnyH_take (i := 14) (oi := ⟨some 62, _, _, _, _, _⟩) (v := undef) rfl (by kernel_rfl) (by kernel_rfl) (by kernel_rfl) (fun _ _ _ h => h) (Or.inr ⟨by rfl, rfl⟩) hHeld ?rrs14)
      try simp only [Act.put, List.setIfInBounds_toArray, List.set_cons_zero, List.set_cons_succ]
      refine wpAnyH_done (by kernel_rfl) ?_ _
      refine NoPanic.normal ?_
      have hEnd : Below wr.heap.size wr ((w6.alloc (ao v0 v1 v2 v3 v4)).drew.alloc (ao v0 v1 v2 v3 v4)) := ((hBw6.alloc hBw6.size _).drew).alloc (by have := hBw6.size; simp [World.drew] at this ⊢; omega) _
      have HEnd := Lib.hid (hB.out.trans (hEnd.mono hB.out.size))
      clear hEnd hBw6 hHeld hN6 b0 b1 b2 b3 b4 hB
      go_wp2
      go_roundw
      case rel => exact ⟨k + 1, by omega, by go_num, HEnd⟩
      case measure => simp [intOf]; omega
    · obtain rfl : k = 2 := by omega
      have hEc := HE3.out.be hB.out
      have d0 := hEc.2.1
      have d1 := hEc.2.2.1
      have d2 := hEc.2.2.2.1
      have d3 := hEc.2.2.2.2.1
      have d4 := hEc.2.2.2.2.2.1
      have d5 := hEc.2.2.2.2.2.2.1
      have d6 := hEc.2.2.2.2.2.2.2.1
      have d7 := hEc.2.2.2.2.2.2.2.2.1
      have d8 := hEc.2.2.2.2.2.2.2.2.2.1
      have d9 := hEc.2.2.2.2.2.2.2.2.2.2.1
      have d10 := hEc.2.2.2.2.2.2.2.2.2.2.2.1
      have d11 := hEc.2.2.2.2.2.2.2.2.2.2.2.2
      have hBW := HB3.out.trans (hB.out.mono HB3.out.size)
      clear hEc HR HE3 HB3 hB
      go_wp2_with fail
      refine (HMB.out _).mono ?_
      rintro e w7 ⟨rfl, hb7⟩
      have hB7 := hBW.trans (hb7.mono hBW.size)
      clear hb7 hBW HMB d0 d1 d2 d3 d4 d5 d6 d7 d8 d9 d10 d11
      have hTE := fun w => rencA_yes mo mf mm mt mn w hmok
      have hTz := encA_size mo mf mm mt mn
      obtain ⟨T, hTT⟩ : ∃ T, encA mo mf mm mt mn = T := ⟨_, rfl⟩
      rw [hTT] at hTE hTz
      clear hTT hmok
      go_wp2_with fail
      refine (hTE _).mono ?_
      rintro e w8 ⟨rfl, hb8⟩
      have hB8 := hB7.trans (hb8.mono hB7.size)
      clear hb8 hB7 hTE
      obtain ⟨kz1, kz2⟩ := pickZ_bd atz 13 (by decide)
      have HPK := fun w => pick_any atz 13 w a1 a2 (by decide) (by decide)
      obtain ⟨kk, hkk⟩ : ∃ kk : Nat, pickZ atz 13 = (kk : Int) := ⟨(pickZ atz 13).toNat, by omega⟩
      rw [hkk] at kz1 kz2 HPK
      clear hkk
      go_wp2_with fail
      refine (HPK _).mono ?_
      rintro e w9 ⟨rfl, rfl⟩
      obtain ⟨C, hC⟩ : ∃ C, strOfNums [by_] = C := ⟨_, rfl⟩
      have hCs : C.size = 1 := by rw [← hC, strOfNums_size]; rfl
      have hcv := conv_one (w8.alloc (.cells #[.int .u8 by_] 5)) w8.heap.size by_ C hC (by simp)
      have hB8a := hB8.alloc hB8.size (.cells #[.int .u8 by_] 5)
      have hs2 := hs
      unfold maxLen at hs2
      clear HPK hC hB8
      go_wp2_with fail
      go_region
      all_goals go_wp2_with fail
      · have hN := six ((w8.alloc (.cells #[.int .u8 by_] 5)).alloc (.cells #[.string (s.extract 0 30), .string T, .string (T.extract 0 kk), .string (T.extract 0 kk ++ C ++ T.extract (kk + 1) 13), .string (T.extract 0 kk ++ C ++ T.extract kk 13), .string (T ++ C)] 9)).drew (w8.heap.size + 1) (s.extract 0 30) T (T.extract 0 kk) (T.extract 0 kk ++ C ++ T.extract (kk + 1) 13) (T.extract 0 kk ++ C ++ T.extract kk 13) (T ++ C) maxLen
          (by unfold maxLen; first | omega | (simp [ByteArray.size_extract]; omega)) (by unfold maxLen; omega) (by unfold maxLen; simp [ByteArray.size_extract]; omega) (by unfold maxLen; simp [ByteArray.size_extract, ByteArray.size_append]; omega) (by unfold maxLen; simp [ByteArray.size_extract, ByteArray.size_append]; omega) (by unfold maxLen; simp [ByteArray.size_append]; omega)
          (six_blk (w8.alloc (.cells #[.int .u8 by_] 5)) _ _ _ _ _ _ (by simp))
        have h5 : Below W.heap.size W ((w8.alloc (.cells #[.int .u8 by_] 5)).alloc (.cells #[.string (s.extract 0 30), .string T, .string (T.extract 0 kk), .string (T.extract 0 kk ++ C ++ T.extract (kk + 1) 13), .string (T.extract 0 kk ++ C ++ T.extract kk 13), .string (T ++ C)] 9)).drew := (hB8a.alloc hB8a.size _).drew
        obtain ⟨W5, hW5⟩ : ∃ W, ((w8.alloc (.cells #[.int .u8 by_] 5)).alloc (.cells #[.string (s.extract 0 30), .string T, .string (T.extract 0 kk), .string (T.extract 0 kk ++ C ++ T.extract (kk + 1) 13), .string (T.extract 0 kk ++ C ++ T.extract kk 13), .string (T ++ C)] 9)).drew = W := ⟨_, rfl⟩
        rw [hW5] at hN h5
        rw [hW5]
        obtain ⟨B5, hBB⟩ : ∃ B, w8.heap.size + 1 = B := ⟨_, rfl⟩
        rw [hBB] at hN
        rw [hBB]
        clear hBB hW5 hcv hB8a hs hs2
        have HN := Lib.hid hN
        have H5 := Lib.hid h5
        clear hN h5
        go_loopw [110] (fun iv wr => ∃ (k : Nat), k ≤ 6 ∧ iv = .int .i64 k ∧ Hid (Below W5.heap.size W5 wr)) (fun i _ => 6 - (intOf i).toNat)
        case atStart => exact ⟨0, by omega, rfl, Lib.hid (Below.refl _ _)⟩
        case round =>
          obtain ⟨k, hk9, rfl, hB⟩ := hrel
          by_cases h6 : k < 6
          · obtain ⟨y, hy, hys⟩ := HN.out k h6
            have hyr := kc2 hB.out hy
            have F1 := fun w => Lib.hid (decode_any y w hys)
            have F2 := fun w => Lib.hid (rdecA_any y w hys)
            have hdv : ∃ q0 q1 q2 q3 q4, decV y = av q0 q1 q2 q3 q4 := by unfold decV; split <;> exact ⟨_, _, _, _, _, rfl⟩
            obtain ⟨q0, q1, q2, q3, q4, hdv⟩ := hdv
            obtain ⟨qe, hqe⟩ : ∃ x, decE y = x := ⟨_, rfl⟩
            rw [hdv, hqe] at F1 F2
            clear hdv hqe hy HN
            have hB0 := hB.out
            clear hB
            go_wp2_with fail
            refine (F1 _).out.mono ?_
            rintro e u1 ⟨rfl, hv1⟩
            have hB1 := hB0.trans (hv1.mono hB0.size)
            clear hv1 hB0 F1 hyr
            go_wp2_with fail
            have hn1 := blk_new u1 (ao q0 q1 q2 q3 q4)
            refine (F2 _).out.mono ?_
            rintro e u2 ⟨rfl, hv2⟩
            have hn2 := blk_below hn1 hv2 (blk_lt hn1)
            have hB1a := hB1.alloc hB1.size (ao q0 q1 q2 q3 q4)
            have hB2 := hB1a.trans (hv2.mono hB1a.size)
            have hn3 := blk_alloc hn2 (ao q0 q1 q2 q3 q4)
            have hB3 := hB2.alloc hB2.size (ao q0 q1 q2 q3 q4)
            have HB := Lib.hid hB3
            have d0 : (u2.alloc (ao q0 q1 q2 q3 q4)).cell? ⟨u1.heap.size, 0, none⟩ = some (.int .i64 q0) := (blk_cell (k := 0) hn3 rfl).1
            have d1 : (u2.alloc (ao q0 q1 q2 q3 q4)).cell? ⟨u1.heap.size, 1, none⟩ = some (.int .i64 q1) := (blk_cell (k := 1) hn3 rfl).1
            have d2 : (u2.alloc (ao q0 q1 q2 q3 q4)).cell? ⟨u1.heap.size, 2, none⟩ = some (.int .i64 q2) := (blk_cell (k := 2) hn3 rfl).1
            have d3 : (u2.alloc (ao q0 q1 q2 q3 q4)).cell? ⟨u1.heap.size, 3, none⟩ = some (.int .i64 q3) := (blk_cell (k := 3) hn3 rfl).1
            have d4 : (u2.alloc (ao q0 q1 q2 q3 q4)).cell? ⟨u1.heap.size, 4, none⟩ = some (.int .i64 q4) := (blk_cell (k := 4) hn3 rfl).1
            clear hv2 hn1 hn2 hn3 hB1 hB1a hB2 hB3 F2
            go_wp2_with fail
            refine ⟨?_, ?measure⟩
            case measure => simp [intOf]; omega
            exact ⟨k + 1, by omega, by go_num, HB⟩
          · obtain rfl : k = 6 := by omega
            go_wp2_with fail
            go_ret
            exact ⟨rfl, H5.out.trans (hB.out.mono H5.out.size)⟩
      · have hN := six ((w8.alloc (.cells #[.int .u8 by_] 5)).alloc (.cells #[.string s, .string T, .string (T.extract 0 kk), .string (T.extract 0 kk ++ C ++ T.extract (kk + 1) 13), .string (T.extract 0 kk ++ C ++ T.extract kk 13), .string (T ++ C)] 9)).drew (w8.heap.size + 1) s T (T.extract 0 kk) (T.extract 0 kk ++ C ++ T.extract (kk + 1) 13) (T.extract 0 kk ++ C ++ T.extract kk 13) (T ++ C) maxLen
          (by unfold maxLen; first | omega | (simp [ByteArray.size_extract]; omega)) (by unfold maxLen; omega) (by unfold maxLen; simp [ByteArray.size_extract]; omega) (by unfold maxLen; simp [ByteArray.size_extract, ByteArray.size_append]; omega) (by unfold maxLen; simp [ByteArray.size_extract, ByteArray.size_append]; omega) (by unfold maxLen; simp [ByteArray.size_append]; omega)
          (six_blk (w8.alloc (.cells #[.int .u8 by_] 5)) _ _ _ _ _ _ (by simp))
        have h5 : Below W.heap.size W ((w8.alloc (.cells #[.int .u8 by_] 5)).alloc (.cells #[.string s, .string T, .string (T.extract 0 kk), .string (T.extract 0 kk ++ C ++ T.extract (kk + 1) 13), .string (T.extract 0 kk ++ C ++ T.extract kk 13), .string (T ++ C)] 9)).drew := (hB8a.alloc hB8a.size _).drew
        obtain ⟨W5, hW5⟩ : ∃ W, ((w8.alloc (.cells #[.int .u8 by_] 5)).alloc (.cells #[.string s, .string T, .string (T.extract 0 kk), .string (T.extract 0 kk ++ C ++ T.extract (kk + 1) 13), .string (T.extract 0 kk ++ C ++ T.extract kk 13), .string (T ++ C)] 9)).drew = W := ⟨_, rfl⟩
        rw [hW5] at hN h5
        rw [hW5]
        obtain ⟨B5, hBB⟩ : ∃ B, w8.heap.size + 1 = B := ⟨_, rfl⟩
        rw [hBB] at hN
        rw [hBB]
        clear hBB hW5 hcv hB8a hs hs2
        have HN := Lib.hid hN
        have H5 := Lib.hid h5
        clear hN h5
        go_loopw [110] (fun iv wr => ∃ (k : Nat), k ≤ 6 ∧ iv = .int .i64 k ∧ Hid (Below W5.heap.size W5 wr)) (fun i _ => 6 - (intOf i).toNat)
        case atStart => exact ⟨0, by omega, rfl, Lib.hid (Below.refl _ _)⟩
        case round =>
          obtain ⟨k, hk9, rfl, hB⟩ := hrel
          by_cases h6 : k < 6
          · obtain ⟨y, hy, hys⟩ := HN.out k h6
            have hyr := kc2 hB.out hy
            have F1 := fun w => Lib.hid (decode_any y w hys)
            have F2 := fun w => Lib.hid (rdecA_any y w hys)
            have hdv : ∃ q0 q1 q2 q3 q4, decV y = av q0 q1 q2 q3 q4 := by unfold decV; split <;> exact ⟨_, _, _, _, _, rfl⟩
            obtain ⟨q0, q1, q2, q3, q4, hdv⟩ := hdv
            obtain ⟨qe, hqe⟩ : ∃ x, decE y = x := ⟨_, rfl⟩
            rw [hdv, hqe] at F1 F2
            clear hdv hqe hy HN
            have hB0 := hB.out
            clear hB
            go_wp2_with fail
            refine (F1 _).out.mono ?_
            rintro e u1 ⟨rfl, hv1⟩
            have hB1 := hB0.trans (hv1.mono hB0.size)
            clear hv1 hB0 F1 hyr
            go_wp2_with fail
            have hn1 := blk_new u1 (ao q0 q1 q2 q3 q4)
            refine (F2 _).out.mono ?_
            rintro e u2 ⟨rfl, hv2⟩
            have hn2 := blk_below hn1 hv2 (blk_lt hn1)
            have hB1a := hB1.alloc hB1.size (ao q0 q1 q2 q3 q4)
            have hB2 := hB1a.trans (hv2.mono hB1a.size)
            have hn3 := blk_alloc hn2 (ao q0 q1 q2 q3 q4)
            have hB3 := hB2.alloc hB2.size (ao q0 q1 q2 q3 q4)
            have HB := Lib.hid hB3
            have d0 : (u2.alloc (ao q0 q1 q2 q3 q4)).cell? ⟨u1.heap.size, 0, none⟩ = some (.int .i64 q0) := (blk_cell (k := 0) hn3 rfl).1
            have d1 : (u2.alloc (ao q0 q1 q2 q3 q4)).cell? ⟨u1.heap.size, 1, none⟩ = some (.int .i64 q1) := (blk_cell (k := 1) hn3 rfl).1
            have d2 : (u2.alloc (ao q0 q1 q2 q3 q4)).cell? ⟨u1.heap.size, 2, none⟩ = some (.int .i64 q2) := (blk_cell (k := 2) hn3 rfl).1
            have d3 : (u2.alloc (ao q0 q1 q2 q3 q4)).cell? ⟨u1.heap.size, 3, none⟩ = some (.int .i64 q3) := (blk_cell (k := 3) hn3 rfl).1
            have d4 : (u2.alloc (ao q0 q1 q2 q3 q4)).cell? ⟨u1.heap.size, 4, none⟩ = some (.int .i64 q4) := (blk_cell (k := 4) hn3 rfl).1
            clear hv2 hn1 hn2 hn3 hB1 hB1a hB2 hB3 F2
            go_wp2_with fail
            refine ⟨?_, ?measure⟩
            case measure => simp [intOf]; omega
            exact ⟨k + 1, by omega, by go_num, HB⟩
          · obtain rfl : k = 6 := by omega
            go_wp2_with fail
            go_ret
            exact ⟨rfl, H5.out.trans (hB.out.mono H5.out.size)⟩
end Go.Proofs.Ytpkfjlbjahghgaa

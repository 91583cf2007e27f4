/- Contract of the statements' own Routes: the walk. -/
import Derived.Test.YtgfcpimklmgnbaaRoK
import Derived.Deep.CutRange
namespace Go.Proofs.Ytgfcpimklmgnbaa
open Go.RowKit Go.Shelf
set_option linter.unusedVariables false
attribute [local go_sem] Oper.semAt_some

/-- a slice as it is: nil, or over a block -/
def SlS (v : Value) : Prop := v = .slice none 0 0 ∨ ∃ g n c, v = .slice (some ⟨g, 0, none⟩) n c
theorem sls_row {w : World} {base : Nat} {e : TypeId} {size : Nat} {v : Value} {n : Nat} {xs : List Value} (h : w.ownsRow base e size v n xs) : SlS v := by
  rcases h.2 with ⟨h1, -⟩ | ⟨g, cap, cur, h1, -⟩
  · exact .inl h1
  · exact .inr ⟨g, _, _, h1⟩

set_option maxRecDepth 100000 in
set_option maxHeartbeats 12800000 in
theorem routes_any (fs : List Fc) (vf : Value) (xs : List Rr) (v : Value) (w : World) (hf : FsAt w vf fs) (hg : GoodFs fs) (h1 : 1 ≤ fs.length) (hx : RrIn w v xs) :
    Calls Try.prog 10 #[vf, v] w fun e w' => (∃ v' rs, e = .returned v' ∧ RsAt w' v' rs ∧ GoodRs fs rs ∧ SlS v') ∧ Below w.heap.size w w' := by
  obtain ⟨p, c, rfl, hl⟩ := hx.form
  obtain ⟨n, hn⟩ : ∃ n, xs.length = n := ⟨_, rfl⟩
  rw [hn] at hx hl ⊢
  unfold maxLen at hl
  obtain ⟨p2, c2, rfl, -⟩ := hf.form
  obtain ⟨m, hm⟩ : ∃ m, fs.length = m := ⟨_, rfl⟩
  have hm4 := hg.1
  rw [hm] at hf h1 hm4 ⊢
  have HX := Lib.hid hx
  have HF := Lib.hid hf
  have HGF := Lib.hid hg
  have HM := Lib.hid hm
  clear hx hn hf hg hm
  go_enter Try.func10, Try.ntmps10
  go_wp2_with fail
  go_loopw [5, 6] (fun o i wr => ∃ (k : Nat) (rs : List Ro), k ≤ 8 ∧ k ≤ n ∧ i = .int .i64 (k : Int) ∧ rs.length = k ∧ Hid (wr.ownsRow w.heap.size 29 4 o k (flatR rs)) ∧ Hid (GoodRs fs rs) ∧ Hid (Below w.heap.size w wr)) (fun _ i _ => n - (intOf i).toNat)
  case atStart => exact ⟨0, [], by omega, by omega, rfl, rfl, World.ownsRow_nil _ _ _ _, GoodRs.nil, Below.refl _ _⟩
  case round =>
    obtain ⟨k, rs, hk8, hkn, rfl, hlen, HO, HG, HB⟩ := hrel
    obtain ⟨vp, vc, rfl, -⟩ := row_shape HO.out
    by_cases h : k < n ∧ k < 8
    · obtain ⟨hk1, hk2⟩ := h
      obtain ⟨x, hin, a, hp, c0, c1, c2', c3⟩ := (HX.out.keep HB.out).at k hk1
      subst hp
      obtain ⟨xa, xb, xv, xf⟩ := x
      simp only at c0 c1 c2' c3
      have hki : (k : Int) < (n : Int) := by omega
      have hk8i : decide ((k : Int) < 8) = true := decide_eq_true (by omega)
      obtain ⟨ia, ib, iv, jf⟩ := hin
      simp only at ia ib iv jf
      have b2 := tdiv_bd ia (k := 16) (by decide)
      have P1 := Lib.hid (pickQ_any (xa.tdiv 16) 8 · b2.1 b2.2 (by decide) (by decide))
      have P2 := Lib.hid (pickQ_any xa 16 · ia.1 ia.2 (by decide) (by decide))
      have P3 := Lib.hid (pickQ_any xb 8 · ib.1 ib.2 (by decide) (by decide))
      have P4 := Lib.hid (pickQ_any xf (m : Int) · jf.1 jf.2 (by omega) (by omega))
      have q1 := pickQ_bd (xa.tdiv 16) 8 (by decide)
      have q2 := pickQ_bd xa 16 (by decide)
      have q3 := pickQ_bd xb 8 (by decide)
      have q4 := pickQ_bd xf (m : Int) (by omega)
      generalize pickQ (xa.tdiv 16) 8 = p1 at *
      generalize pickQ xa 16 = p2' at *
      generalize pickQ xb 8 = p3 at *
      generalize pickQ xf (m : Int) = p4 at *
      have k1 : wrap64 (xa.tdiv 16) = xa.tdiv 16 := IntWalk.wrap64_in _ b2
      have k2 : IntKind.i64.wrap (xa.tdiv 16) = xa.tdiv 16 := wrap_id b2.1 b2.2
      obtain ⟨j, rfl⟩ := Int.eq_ofNat_of_zero_le q3.1
      obtain ⟨fi, rfl⟩ := Int.eq_ofNat_of_zero_le q4.1
      have hj8 : j < 8 := by omega
      have hji : (j : Int) < 8 := by omega
      have hnb := litR_ok j
      obtain ⟨NB, hNB⟩ : ∃ NB, litR j = NB := ⟨_, rfl⟩
      have hlj : ∀ W : World, (W.alloc oLit8).cell? ⟨W.heap.size, j, none⟩ = some (.int .i64 NB) := fun W => by rw [← hNB]; exact litR_at W j hj8
      rw [hNB] at hnb
      obtain ⟨P, hP⟩ : ∃ P, 167772160 + p1 * 65536 + p2' * 256 = P := ⟨_, rfl⟩
      have hP1 : 167772160 ≤ P ∧ P ≤ 184549375 := by omega
      have u1 : IntKind.i64.wrap (p1 * 65536) = p1 * 65536 := wrap_id (by omega) (by omega)
      have u2 : IntKind.i64.wrap (167772160 + p1 * 65536) = 167772160 + p1 * 65536 := wrap_id (by omega) (by omega)
      have u3 : IntKind.i64.wrap (p2' * 256) = p2' * 256 := wrap_id (by omega) (by omega)
      have u4 : IntKind.i64.wrap (167772160 + p1 * 65536 + p2' * 256) = P := by rw [hP]; exact wrap_id (by omega) (by omega)
      have u5 : wrap64 (p1 * 65536) = p1 * 65536 := IntWalk.wrap64_in _ ⟨by omega, by omega⟩
      have u6 : wrap64 (167772160 + p1 * 65536) = 167772160 + p1 * 65536 := IntWalk.wrap64_in _ ⟨by omega, by omega⟩
      have u7 : wrap64 (p2' * 256) = p2' * 256 := IntWalk.wrap64_in _ ⟨by omega, by omega⟩
      have u8 : wrap64 (167772160 + p1 * 65536 + p2' * 256) = P := by rw [hP]; exact IntWalk.wrap64_in _ ⟨by omega, by omega⟩
      have HN := Lib.hid (fun w => net_any P NB w (by omega) (by omega) hnb)
      have HNB := Lib.hid hnb
      have HLJ := Lib.hid hlj
      have HLen := Lib.hid hlen
      have HP := Lib.hid hP1
      have HIV := Lib.hid iv
      have hfim : fi < m := by omega
      clear hP hNB hlj hnb b2 ia ib jf hlen hP1 q3 q4 iv
      have hrow0 := HO.out
      have hst0 : RwSt w wr.heap.size (.cells #[.int .i64 xa, .int .i64 xb, .int .i64 xv, .int .i64 xf] 59) 29 4 k (.slice vp k vc) (flatR rs) (wr.alloc (.cells #[.int .i64 xa, .int .i64 xb, .int .i64 xv, .int .i64 xf] 59)) :=
        ⟨HB.out.alloc HB.out.size _, blk_new wr _, row_of_block hrow0 (fun g e => by obtain ⟨-, cur, hc⟩ := row_cells hrow0 e; exact Below.heap_alloc _ _ _ (blk_lt hc)), fun e => by obtain ⟨-, cur, hc⟩ := row_cells hrow0 e; exact Nat.lt_irrefl _ (blk_lt hc)⟩
      have HST0 := Lib.hid hst0
      clear hst0 hrow0
      go_wp2_with fail
      obtain ⟨W1, hW1⟩ : ∃ W1, wr.alloc (.cells #[.int .i64 xa, .int .i64 xb, .int .i64 xv, .int .i64 xf] 59) = W1 := ⟨_, rfl⟩
      rw [hW1] at HST0 ⊢
      obtain ⟨X, hX⟩ : ∃ X, wr.heap.size = X := ⟨_, rfl⟩
      rw [hX] at HST0 ⊢
      clear hW1 hX c0 c1 c2' c3
      go_cut [8] from 12 to 90 (fun v wx => ∃ Z, v = .pointer (some ⟨Z, 0, none⟩) ∧ Hid (RzSt w X (.cells #[.int .i64 xa, .int .i64 xb, .int .i64 xv, .int .i64 xf] 59) k (.slice vp k vc) (flatR rs) Z ⟨netZ P NB, NB, 0, (fi : Int)⟩ wx))
      case first =>
        refine wp_region_noPanic ?_
        refine wp_region_held_drew (S := fun w' => w'.heap[X]? = some (.cells #[.int .i64 xa, .int .i64 xb, .int .i64 xv, .int .i64 xf] 59 (0, 0))) (by kernel_rfl) (HST0.out.draw.x) (fun hHeld => ?_)
        obtain ⟨Wd, hWd⟩ : ∃ Wd, W1.drew = Wd := ⟨_, rfl⟩
        have hSt : Hid (RwSt w X (.cells #[.int .i64 xa, .int .i64 xb, .int .i64 xv, .int .i64 xf] 59) 29 4 k (.slice vp k vc) (flatR rs) Wd) := by rw [← hWd]; exact Lib.hid HST0.out.draw
        rw [hWd] at hHeld ⊢
        clear hWd HST0
        first
          | (refine wpAnyH_take (i := 0) (oi := ⟨some 26, _, _, _, _, _⟩) (v := ?vq193x0) rfl (by kernel_rfl) (by kernel_rfl) (by kernel_rfl) (fun _ _ _ h => h) (Or.inl ⟨by rfl, ?hyq193x0⟩) hHeld ?rrq193x0
             case hyq193x0 => (intro w hSw; obtain ⟨c0, c1, c2, c3⟩ := rr_first hSw; clear hSw; go_simp; try with_reducible rfl))
          | (refine wpAnyH_take (i := 0) (oi := ⟨some 26, _, _, _, _, _⟩) (v := undef) rfl (by kernel_rfl) (by kernel_rfl) (by kernel_rfl) (fun _ _ _ h => h) (Or.inr ⟨by rfl, rfl⟩) hHeld ?rrq193x0)
        try simp only [Act.put, List.setIfInBounds_toArray, List.set_cons_zero, List.set_cons_succ]
        first
          | (refine wpAnyH_take (i := 1) (oi := ⟨some 27, _, _, _, _, _⟩) (v := ?vq193x1) rfl (by kernel_rfl) (by kernel_rfl) (by kernel_rfl) (fun _ _ _ h => h) (Or.inl ⟨by rfl, ?hyq193x1⟩) hHeld ?rrq193x1
             case hyq193x1 => (intro w hSw; obtain ⟨c0, c1, c2, c3⟩ := rr_first hSw; clear hSw; go_simp; try with_reducible rfl))
          | (refine wpAnyH_take (i := 1) (oi := ⟨some 27, _, _, _, _, _⟩) (v := undef) rfl (by kernel_rfl) (by kernel_rfl) (by kernel_rfl) (fun _ _ _ h => h) (Or.inr ⟨by rfl, rfl⟩) hHeld ?rrq193x1)
        try simp only [Act.put, List.setIfInBounds_toArray, List.set_cons_zero, List.set_cons_succ]
        first
          | (refine wpAnyH_take (i := 2) (oi := ⟨some 28, _, _, _, _, _⟩) (v := ?vq193x2) rfl (by kernel_rfl) (by kernel_rfl) (by kernel_rfl) (fun _ _ _ h => h) (Or.inl ⟨by rfl, ?hyq193x2⟩) hHeld ?rrq193x2
             case hyq193x2 => (intro w hSw; obtain ⟨c0, c1, c2, c3⟩ := rr_first hSw; clear hSw; go_simp; try with_reducible rfl))
          | (refine wpAnyH_take (i := 2) (oi := ⟨some 28, _, _, _, _, _⟩) (v := undef) rfl (by kernel_rfl) (by kernel_rfl) (by kernel_rfl) (fun _ _ _ h => h) (Or.inr ⟨by rfl, rfl⟩) hHeld ?rrq193x2)
        try simp only [Act.put, List.setIfInBounds_toArray, List.set_cons_zero, List.set_cons_succ]
        first
          | (refine wpAnyH_take (i := 6) (oi := ⟨some 32, _, _, _, _, _⟩) (v := ?vq193x6) rfl (by kernel_rfl) (by kernel_rfl) (by kernel_rfl) (fun _ _ _ h => h) (Or.inl ⟨by rfl, ?hyq193x6⟩) hHeld ?rrq193x6
             case hyq193x6 => (intro w hSw; obtain ⟨c0, c1, c2, c3⟩ := rr_first hSw; clear hSw; go_simp; try with_reducible rfl))
          | (refine wpAnyH_take (i := 6) (oi := ⟨some 32, _, _, _, _, _⟩) (v := undef) rfl (by kernel_rfl) (by kernel_rfl) (by kernel_rfl) (fun _ _ _ h => h) (Or.inr ⟨by rfl, rfl⟩) hHeld ?rrq193x6)
        try simp only [Act.put, List.setIfInBounds_toArray, List.set_cons_zero, List.set_cons_succ]
        first
          | (refine wpAnyH_take (i := 7) (oi := ⟨some 33, _, _, _, _, _⟩) (v := ?vq193x7) rfl (by kernel_rfl) (by kernel_rfl) (by kernel_rfl) (fun _ _ _ h => h) (Or.inl ⟨by rfl, ?hyq193x7⟩) hHeld ?rrq193x7
             case hyq193x7 => (intro w hSw; obtain ⟨c0, c1, c2, c3⟩ := rr_first hSw; clear hSw; go_simp; try with_reducible rfl))
          | (refine wpAnyH_take (i := 7) (oi := ⟨some 33, _, _, _, _, _⟩) (v := undef) rfl (by kernel_rfl) (by kernel_rfl) (by kernel_rfl) (fun _ _ _ h => h) (Or.inr ⟨by rfl, rfl⟩) hHeld ?rrq193x7)
        try simp only [Act.put, List.setIfInBounds_toArray, List.set_cons_zero, List.set_cons_succ]
        first
          | (refine wpAnyH_take (i := 12) (oi := ⟨some 38, _, _, _, _, _⟩) (v := ?vq193x12) rfl (by kernel_rfl) (by kernel_rfl) (by kernel_rfl) (fun _ _ _ h => h) (Or.inl ⟨by rfl, ?hyq193x12⟩) hHeld ?rrq193x12
             case hyq193x12 => (intro w hSw; obtain ⟨c0, c1, c2, c3⟩ := rr_first hSw; clear hSw; go_simp; try with_reducible rfl))
          | (refine wpAnyH_take (i := 12) (oi := ⟨some 38, _, _, _, _, _⟩) (v := undef) rfl (by kernel_rfl) (by kernel_rfl) (by kernel_rfl) (fun _ _ _ h => h) (Or.inr ⟨by rfl, rfl⟩) hHeld ?rrq193x12)
        try simp only [Act.put, List.setIfInBounds_toArray, List.set_cons_zero, List.set_cons_succ]
        first
          | (refine wpAnyH_take (i := 13) (oi := ⟨some 39, _, _, _, _, _⟩) (v := ?vq193x13) rfl (by kernel_rfl) (by kernel_rfl) (by kernel_rfl) (fun _ _ _ h => h) (Or.inl ⟨by rfl, ?hyq193x13⟩) hHeld ?rrq193x13
             case hyq193x13 => (intro w hSw; obtain ⟨c0, c1, c2, c3⟩ := rr_first hSw; clear hSw; go_simp; try with_reducible rfl))
          | (refine wpAnyH_take (i := 13) (oi := ⟨some 39, _, _, _, _, _⟩) (v := undef) rfl (by kernel_rfl) (by kernel_rfl) (by kernel_rfl) (fun _ _ _ h => h) (Or.inr ⟨by rfl, rfl⟩) hHeld ?rrq193x13)
        try simp only [Act.put, List.setIfInBounds_toArray, List.set_cons_zero, List.set_cons_succ]
        first
          | (refine wpAnyH_take (i := 18) (oi := ⟨some 44, _, _, _, _, _⟩) (v := ?vq193x18) rfl (by kernel_rfl) (by kernel_rfl) (by kernel_rfl) (fun _ _ _ h => h) (Or.inl ⟨by rfl, ?hyq193x18⟩) hHeld ?rrq193x18
             case hyq193x18 => (intro w hSw; obtain ⟨c0, c1, c2, c3⟩ := rr_first hSw; clear hSw; go_simp; try with_reducible rfl))
          | (refine wpAnyH_take (i := 18) (oi := ⟨some 44, _, _, _, _, _⟩) (v := undef) rfl (by kernel_rfl) (by kernel_rfl) (by kernel_rfl) (fun _ _ _ h => h) (Or.inr ⟨by rfl, rfl⟩) hHeld ?rrq193x18)
        try simp only [Act.put, List.setIfInBounds_toArray, List.set_cons_zero, List.set_cons_succ]
        first
          | (refine wpAnyH_take (i := 19) (oi := ⟨some 45, _, _, _, _, _⟩) (v := ?vq193x19) rfl (by kernel_rfl) (by kernel_rfl) (by kernel_rfl) (fun _ _ _ h => h) (Or.inl ⟨by rfl, ?hyq193x19⟩) hHeld ?rrq193x19
             case hyq193x19 => (intro w hSw; obtain ⟨c0, c1, c2, c3⟩ := rr_first hSw; clear hSw; go_simp; try with_reducible rfl))
          | (refine wpAnyH_take (i := 19) (oi := ⟨some 45, _, _, _, _, _⟩) (v := undef) rfl (by kernel_rfl) (by kernel_rfl) (by kernel_rfl) (fun _ _ _ h => h) (Or.inr ⟨by rfl, rfl⟩) hHeld ?rrq193x19)
        try simp only [Act.put, List.setIfInBounds_toArray, List.set_cons_zero, List.set_cons_succ]
        first
          | (refine wpAnyH_take (i := 20) (oi := ⟨some 46, _, _, _, _, _⟩) (v := ?vq193x20) rfl (by kernel_rfl) (by kernel_rfl) (by kernel_rfl) (fun _ _ _ h => h) (Or.inl ⟨by rfl, ?hyq193x20⟩) hHeld ?rrq193x20
             case hyq193x20 => (intro w hSw; obtain ⟨c0, c1, c2, c3⟩ := rr_first hSw; clear hSw; go_simp; try with_reducible rfl))
          | (refine wpAnyH_take (i := 20) (oi := ⟨some 46, _, _, _, _, _⟩) (v := undef) rfl (by kernel_rfl) (by kernel_rfl) (by kernel_rfl) (fun _ _ _ h => h) (Or.inr ⟨by rfl, rfl⟩) hHeld ?rrq193x20)
        try simp only [Act.put, List.setIfInBounds_toArray, List.set_cons_zero, List.set_cons_succ]
        first
          | (refine wpAnyH_take (i := 21) (oi := ⟨some 47, _, _, _, _, _⟩) (v := ?vq193x21) rfl (by kernel_rfl) (by kernel_rfl) (by kernel_rfl) (fun _ _ _ h => h) (Or.inl ⟨by rfl, ?hyq193x21⟩) hHeld ?rrq193x21
             case hyq193x21 => (intro w hSw; obtain ⟨c0, c1, c2, c3⟩ := rr_first hSw; clear hSw; go_simp; try with_reducible rfl))
          | (refine wpAnyH_take (i := 21) (oi := ⟨some 47, _, _, _, _, _⟩) (v := undef) rfl (by kernel_rfl) (by kernel_rfl) (by kernel_rfl) (fun _ _ _ h => h) (Or.inr ⟨by rfl, rfl⟩) hHeld ?rrq193x21)
        try simp only [Act.put, List.setIfInBounds_toArray, List.set_cons_zero, List.set_cons_succ]
        refine wpAnyH_ready (rs := [3, 11, 24]) (by kernel_rfl) (by simp) ?_
        refine (AllReadyH.cons (o := ⟨some 29, _, _, _, _, _⟩) rfl (fun K hK => ?evq193x3) (AllReadyH.cons (o := ⟨some 37, _, _, _, _, _⟩) rfl (fun K hK => ?evq193x11) (AllReadyH.cons (o := ⟨some 8, _, _, _, _, _⟩) rfl (fun K hK => ?evq193x24) AllReadyH.nil)))
        case evq193x3 =>
          go_simp
          (go_at_call 11; refine (P1.out _).mono ?_; rintro e9 w9 ⟨rfl, rfl⟩)
          refine hK.out _ _ (hHeld) (fun hHeld2 => ?_)
          clear hK K hHeld
          have hHeld := hHeld2
          clear hHeld2
          try simp only [Act.put, List.setIfInBounds_toArray, List.set_cons_zero, List.set_cons_succ]
          first
            | (refine wpAnyH_take (i := 4) (oi := ⟨some 30, _, _, _, _, _⟩) (v := ?vq194x4) rfl (by kernel_rfl) (by kernel_rfl) (by kernel_rfl) (fun _ _ _ h => h) (Or.inl ⟨by rfl, ?hyq194x4⟩) hHeld ?rrq194x4
               case hyq194x4 => (intro w hSw; obtain ⟨c0, c1, c2, c3⟩ := rr_first hSw; clear hSw; go_simp; try with_reducible rfl))
            | (refine wpAnyH_take (i := 4) (oi := ⟨some 30, _, _, _, _, _⟩) (v := undef) rfl (by kernel_rfl) (by kernel_rfl) (by kernel_rfl) (fun _ _ _ h => h) (Or.inr ⟨by rfl, rfl⟩) hHeld ?rrq194x4)
          try simp only [Act.put, List.setIfInBounds_toArray, List.set_cons_zero, List.set_cons_succ]
          first
            | (refine wpAnyH_take (i := 5) (oi := ⟨some 31, _, _, _, _, _⟩) (v := ?vq194x5) rfl (by kernel_rfl) (by kernel_rfl) (by kernel_rfl) (fun _ _ _ h => h) (Or.inl ⟨by rfl, ?hyq194x5⟩) hHeld ?rrq194x5
               case hyq194x5 => (intro w hSw; obtain ⟨c0, c1, c2, c3⟩ := rr_first hSw; clear hSw; go_simp; try with_reducible rfl))
            | (refine wpAnyH_take (i := 5) (oi := ⟨some 31, _, _, _, _, _⟩) (v := undef) rfl (by kernel_rfl) (by kernel_rfl) (by kernel_rfl) (fun _ _ _ h => h) (Or.inr ⟨by rfl, rfl⟩) hHeld ?rrq194x5)
          try simp only [Act.put, List.setIfInBounds_toArray, List.set_cons_zero, List.set_cons_succ]
          refine wpAnyH_ready (rs := [8, 11, 24]) (by kernel_rfl) (by simp) ?_
          refine (AllReadyH.cons (o := ⟨some 34, _, _, _, _, _⟩) rfl (fun K hK => ?evq194x8) (AllReadyH.cons (o := ⟨some 37, _, _, _, _, _⟩) rfl (fun K hK => ?evq194x11) (AllReadyH.cons (o := ⟨some 8, _, _, _, _, _⟩) rfl (fun K hK => ?evq194x24) AllReadyH.nil)))
          case evq194x8 =>
            go_simp
            (go_at_call 11; refine (P2.out _).mono ?_; rintro e9 w9 ⟨rfl, rfl⟩)
            refine hK.out _ _ (hHeld) (fun hHeld2 => ?_)
            clear hK K hHeld
            have hHeld := hHeld2
            clear hHeld2
            try simp only [Act.put, List.setIfInBounds_toArray, List.set_cons_zero, List.set_cons_succ]
            first
              | (refine wpAnyH_take (i := 9) (oi := ⟨some 35, _, _, _, _, _⟩) (v := ?vq195x9) rfl (by kernel_rfl) (by kernel_rfl) (by kernel_rfl) (fun _ _ _ h => h) (Or.inl ⟨by rfl, ?hyq195x9⟩) hHeld ?rrq195x9
                 case hyq195x9 => (intro w hSw; obtain ⟨c0, c1, c2, c3⟩ := rr_first hSw; clear hSw; go_simp; try with_reducible rfl))
              | (refine wpAnyH_take (i := 9) (oi := ⟨some 35, _, _, _, _, _⟩) (v := undef) rfl (by kernel_rfl) (by kernel_rfl) (by kernel_rfl) (fun _ _ _ h => h) (Or.inr ⟨by rfl, rfl⟩) hHeld ?rrq195x9)
            try simp only [Act.put, List.setIfInBounds_toArray, List.set_cons_zero, List.set_cons_succ]
            first
              | (refine wpAnyH_take (i := 10) (oi := ⟨some 36, _, _, _, _, _⟩) (v := ?vq195x10) rfl (by kernel_rfl) (by kernel_rfl) (by kernel_rfl) (fun _ _ _ h => h) (Or.inl ⟨by rfl, ?hyq195x10⟩) hHeld ?rrq195x10
                 case hyq195x10 => (intro w hSw; obtain ⟨c0, c1, c2, c3⟩ := rr_first hSw; clear hSw; go_simp; try with_reducible rfl))
              | (refine wpAnyH_take (i := 10) (oi := ⟨some 36, _, _, _, _, _⟩) (v := undef) rfl (by kernel_rfl) (by kernel_rfl) (by kernel_rfl) (fun _ _ _ h => h) (Or.inr ⟨by rfl, rfl⟩) hHeld ?rrq195x10)
            try simp only [Act.put, List.setIfInBounds_toArray, List.set_cons_zero, List.set_cons_succ]
            refine wpAnyH_ready (rs := [11, 14, 24]) (by kernel_rfl) (by simp) ?_
            refine (AllReadyH.cons (o := ⟨some 37, _, _, _, _, _⟩) rfl (fun K hK => ?evq195x11) (AllReadyH.cons (o := ⟨some 40, _, _, _, _, _⟩) rfl (fun K hK => ?evq195x14) (AllReadyH.cons (o := ⟨some 8, _, _, _, _, _⟩) rfl (fun K hK => ?evq195x24) AllReadyH.nil)))
            case evq195x11 =>
              go_simp
              refine hK.out _ _ (blk_alloc hHeld _) (fun hHeld2 => ?_)
              clear hK K hHeld
              have hHeld := hHeld2
              clear hHeld2
              try simp only [Act.put, List.setIfInBounds_toArray, List.set_cons_zero, List.set_cons_succ]
              have hlit := HLJ.out Wd
              have hSt := Lib.hid (hSt.out.below (below_alloc Wd oLit8))
              obtain ⟨L, hL⟩ : ∃ L, Wd.heap.size = L := ⟨_, rfl⟩
              obtain ⟨Wd1, hWn⟩ : ∃ Wn, Wd.alloc oLit8 = Wn := ⟨_, rfl⟩
              rw [hWn] at hlit hSt hHeld ⊢
              rw [hL] at hlit ⊢
              clear hL hWn
              refine wpAnyH_ready (rs := [14, 24]) (by kernel_rfl) (by simp) ?_
              refine (AllReadyH.cons (o := ⟨some 40, _, _, _, _, _⟩) rfl (fun K hK => ?evq196x14) (AllReadyH.cons (o := ⟨some 8, _, _, _, _, _⟩) rfl (fun K hK => ?evq196x24) AllReadyH.nil))
              case evq196x14 =>
                go_simp
                (go_at_call 11; refine (P3.out _).mono ?_; rintro e9 w9 ⟨rfl, rfl⟩)
                refine hK.out _ _ (hHeld) (fun hHeld2 => ?_)
                clear hK K hHeld
                have hHeld := hHeld2
                clear hHeld2
                try simp only [Act.put, List.setIfInBounds_toArray, List.set_cons_zero, List.set_cons_succ]
                first
                  | (refine wpAnyH_take (i := 15) (oi := ⟨some 41, _, _, _, _, _⟩) (v := ?vq197x15) rfl (by kernel_rfl) (by kernel_rfl) (by kernel_rfl) (fun _ _ _ h => h) (Or.inl ⟨by rfl, ?hyq197x15⟩) hHeld ?rrq197x15
                     case hyq197x15 => (intro w hSw; obtain ⟨c0, c1, c2, c3⟩ := rr_first hSw; clear hSw; go_simp; try with_reducible rfl))
                  | (refine wpAnyH_take (i := 15) (oi := ⟨some 41, _, _, _, _, _⟩) (v := undef) rfl (by kernel_rfl) (by kernel_rfl) (by kernel_rfl) (fun _ _ _ h => h) (Or.inr ⟨by rfl, rfl⟩) hHeld ?rrq197x15)
                try simp only [Act.put, List.setIfInBounds_toArray, List.set_cons_zero, List.set_cons_succ]
                refine wpAnyH_ready (rs := [16, 24]) (by kernel_rfl) (by simp) ?_
                refine (AllReadyH.cons (o := ⟨some 42, _, _, _, _, _⟩) rfl (fun K hK => ?evq197x16) (AllReadyH.cons (o := ⟨some 8, _, _, _, _, _⟩) rfl (fun K hK => ?evq197x24) AllReadyH.nil))
                case evq197x16 =>
                  go_simp
                  refine hK.out _ _ (hHeld) (fun hHeld2 => ?_)
                  clear hK K hHeld
                  have hHeld := hHeld2
                  clear hHeld2
                  try simp only [Act.put, List.setIfInBounds_toArray, List.set_cons_zero, List.set_cons_succ]
                  clear hlit
                  refine wpAnyH_ready (rs := [17, 24]) (by kernel_rfl) (by simp) ?_
                  refine (AllReadyH.cons (o := ⟨some 43, _, _, _, _, _⟩) rfl (fun K hK => ?evq198x17) (AllReadyH.cons (o := ⟨some 8, _, _, _, _, _⟩) rfl (fun K hK => ?evq198x24) AllReadyH.nil))
                  case evq198x17 =>
                    go_simp
                    (go_at_call 23; refine (HN.out _).mono ?_; rintro e9 Wd2 ⟨rfl, hb9⟩)
                    refine hK.out _ _ (blk_below hHeld hb9 (blk_lt hHeld)) (fun hHeld2 => ?_)
                    clear hK K hHeld
                    have hHeld := hHeld2
                    clear hHeld2
                    try simp only [Act.put, List.setIfInBounds_toArray, List.set_cons_zero, List.set_cons_succ]
                    have hSt := Lib.hid (hSt.out.below hb9)
                    clear hb9
                    refine wpAnyH_ready (rs := [22, 24]) (by kernel_rfl) (by simp) ?_
                    refine (AllReadyH.cons (o := ⟨some 48, _, _, _, _, _⟩) rfl (fun K hK => ?evq199x22) (AllReadyH.cons (o := ⟨some 8, _, _, _, _, _⟩) rfl (fun K hK => ?evq199x24) AllReadyH.nil))
                    case evq199x22 =>
                      go_simp
                      (go_at_call 11; refine (P4.out _).mono ?_; rintro e9 w9 ⟨rfl, rfl⟩)
                      refine hK.out _ _ (hHeld) (fun hHeld2 => ?_)
                      clear hK K hHeld
                      have hHeld := hHeld2
                      clear hHeld2
                      try simp only [Act.put, List.setIfInBounds_toArray, List.set_cons_zero, List.set_cons_succ]
                      first
                        | (refine wpAnyH_take (i := 23) (oi := ⟨some 49, _, _, _, _, _⟩) (v := ?vq200x23) rfl (by kernel_rfl) (by kernel_rfl) (by kernel_rfl) (fun _ _ _ h => h) (Or.inl ⟨by rfl, ?hyq200x23⟩) hHeld ?rrq200x23
                           case hyq200x23 => (intro w hSw; obtain ⟨c0, c1, c2, c3⟩ := rr_first hSw; clear hSw; go_simp; try with_reducible rfl))
                        | (refine wpAnyH_take (i := 23) (oi := ⟨some 49, _, _, _, _, _⟩) (v := undef) rfl (by kernel_rfl) (by kernel_rfl) (by kernel_rfl) (fun _ _ _ h => h) (Or.inr ⟨by rfl, rfl⟩) hHeld ?rrq200x23)
                      try simp only [Act.put, List.setIfInBounds_toArray, List.set_cons_zero, List.set_cons_succ]
                      refine wpAnyH_ready (rs := [24]) (by kernel_rfl) (by simp) ?_
                      refine (AllReadyH.cons (o := ⟨some 8, _, _, _, _, _⟩) rfl (fun K hK => ?evq200x24) AllReadyH.nil)
                      case evq200x24 =>
                        go_simp
                        refine hK.out _ _ (blk_alloc hHeld _) (fun hHeld2 => ?_)
                        clear hK K hHeld
                        have hHeld := hHeld2
                        clear hHeld2
                        try simp only [Act.put, List.setIfInBounds_toArray, List.set_cons_zero, List.set_cons_succ]
                        have hSt := Lib.hid (RzSt.made hSt.out)
                        obtain ⟨Z, hZ⟩ : ∃ Z, Wd2.heap.size = Z := ⟨_, rfl⟩
                        obtain ⟨Wd3, hWn⟩ : ∃ Wn, Wd2.alloc (ro rz) = Wn := ⟨_, rfl⟩
                        rw [show Wd2.alloc (.cells #[.int .i64 0, .int .i64 0, .int .i64 0, .int .i64 0] 29) = Wd3 from hWn] at hHeld ⊢
                        rw [hWn] at hSt
                        rw [hZ] at hSt ⊢
                        clear hZ hWn
                        refine wpAnyH_ready (rs := [25]) (by kernel_rfl) (by simp) ?_
                        refine (AllReadyH.cons (o := ⟨none, _, _, _, _, _⟩) rfl (fun K hK => ?evq201x25) AllReadyH.nil)
                        case evq201x25 =>
                          obtain ⟨s0, s1, s2, s3, t0, t1, t2, t3⟩ := rz_cells hSt.out
                          have hSt5 := hSt.out.put ⟨netZ P NB, NB, 0, (fi : Int)⟩
                          go_simp
                          refine hK.out _ _ (hSt5.st.x) (fun hHeld2 => ?_)
                          clear hK K hHeld
                          have hHeld := hHeld2
                          clear hHeld2
                          try simp only [Act.put, List.setIfInBounds_toArray, List.set_cons_zero, List.set_cons_succ]
                          refine wpAnyH_done (by kernel_rfl) ?_ _
                          refine NoPanic.normal ?_
                          go_wp2_with fail
                          go_meet
                          exact ⟨Z, rfl, Lib.hid hSt5⟩
                    case evq199x24 =>
                      go_simp
                      refine hK.out _ _ (blk_alloc hHeld _) (fun hHeld2 => ?_)
                      clear hK K hHeld
                      have hHeld := hHeld2
                      clear hHeld2
                      try simp only [Act.put, List.setIfInBounds_toArray, List.set_cons_zero, List.set_cons_succ]
                      have hSt := Lib.hid (RzSt.made hSt.out)
                      obtain ⟨Z, hZ⟩ : ∃ Z, Wd2.heap.size = Z := ⟨_, rfl⟩
                      obtain ⟨Wd3, hWn⟩ : ∃ Wn, Wd2.alloc (ro rz) = Wn := ⟨_, rfl⟩
                      rw [show Wd2.alloc (.cells #[.int .i64 0, .int .i64 0, .int .i64 0, .int .i64 0] 29) = Wd3 from hWn] at hHeld ⊢
                      rw [hWn] at hSt
                      rw [hZ] at hSt ⊢
                      clear hZ hWn
                      refine wpAnyH_ready (rs := [22]) (by kernel_rfl) (by simp) ?_
                      refine (AllReadyH.cons (o := ⟨some 48, _, _, _, _, _⟩) rfl (fun K hK => ?evq203x22) AllReadyH.nil)
                      case evq203x22 =>
                        go_simp
                        (go_at_call 11; refine (P4.out _).mono ?_; rintro e9 w9 ⟨rfl, rfl⟩)
                        refine hK.out _ _ (hHeld) (fun hHeld2 => ?_)
                        clear hK K hHeld
                        have hHeld := hHeld2
                        clear hHeld2
                        try simp only [Act.put, List.setIfInBounds_toArray, List.set_cons_zero, List.set_cons_succ]
                        first
                          | (refine wpAnyH_take (i := 23) (oi := ⟨some 49, _, _, _, _, _⟩) (v := ?vq204x23) rfl (by kernel_rfl) (by kernel_rfl) (by kernel_rfl) (fun _ _ _ h => h) (Or.inl ⟨by rfl, ?hyq204x23⟩) hHeld ?rrq204x23
                             case hyq204x23 => (intro w hSw; obtain ⟨c0, c1, c2, c3⟩ := rr_first hSw; clear hSw; go_simp; try with_reducible rfl))
                          | (refine wpAnyH_take (i := 23) (oi := ⟨some 49, _, _, _, _, _⟩) (v := undef) rfl (by kernel_rfl) (by kernel_rfl) (by kernel_rfl) (fun _ _ _ h => h) (Or.inr ⟨by rfl, rfl⟩) hHeld ?rrq204x23)
                        try simp only [Act.put, List.setIfInBounds_toArray, List.set_cons_zero, List.set_cons_succ]
                        refine wpAnyH_ready (rs := [25]) (by kernel_rfl) (by simp) ?_
                        refine (AllReadyH.cons (o := ⟨none, _, _, _, _, _⟩) rfl (fun K hK => ?evq204x25) AllReadyH.nil)
                        case evq204x25 =>
                          obtain ⟨s0, s1, s2, s3, t0, t1, t2, t3⟩ := rz_cells hSt.out
                          have hSt5 := hSt.out.put ⟨netZ P NB, NB, 0, (fi : Int)⟩
                          go_simp
                          refine hK.out _ _ (hSt5.st.x) (fun hHeld2 => ?_)
                          clear hK K hHeld
                          have hHeld := hHeld2
                          clear hHeld2
                          try simp only [Act.put, List.setIfInBounds_toArray, List.set_cons_zero, List.set_cons_succ]
                          refine wpAnyH_done (by kernel_rfl) ?_ _
                          refine NoPanic.normal ?_
                          go_wp2_with fail
                          go_meet
                          exact ⟨Z, rfl, Lib.hid hSt5⟩
                  case evq198x24 =>
                    go_simp
                    refine hK.out _ _ (blk_alloc hHeld _) (fun hHeld2 => ?_)
                    clear hK K hHeld
                    have hHeld := hHeld2
                    clear hHeld2
                    try simp only [Act.put, List.setIfInBounds_toArray, List.set_cons_zero, List.set_cons_succ]
                    have hSt := Lib.hid (RzSt.made hSt.out)
                    obtain ⟨Z, hZ⟩ : ∃ Z, Wd1.heap.size = Z := ⟨_, rfl⟩
                    obtain ⟨Wd2, hWn⟩ : ∃ Wn, Wd1.alloc (ro rz) = Wn := ⟨_, rfl⟩
                    rw [show Wd1.alloc (.cells #[.int .i64 0, .int .i64 0, .int .i64 0, .int .i64 0] 29) = Wd2 from hWn] at hHeld ⊢
                    rw [hWn] at hSt
                    rw [hZ] at hSt ⊢
                    clear hZ hWn
                    refine wpAnyH_ready (rs := [17]) (by kernel_rfl) (by simp) ?_
                    refine (AllReadyH.cons (o := ⟨some 43, _, _, _, _, _⟩) rfl (fun K hK => ?evq206x17) AllReadyH.nil)
                    case evq206x17 =>
                      go_simp
                      (go_at_call 23; refine (HN.out _).mono ?_; rintro e9 Wd3 ⟨rfl, hb9⟩)
                      refine hK.out _ _ (blk_below hHeld hb9 (blk_lt hHeld)) (fun hHeld2 => ?_)
                      clear hK K hHeld
                      have hHeld := hHeld2
                      clear hHeld2
                      try simp only [Act.put, List.setIfInBounds_toArray, List.set_cons_zero, List.set_cons_succ]
                      have hSt := Lib.hid (hSt.out.below hb9)
                      clear hb9
                      refine wpAnyH_ready (rs := [22]) (by kernel_rfl) (by simp) ?_
                      refine (AllReadyH.cons (o := ⟨some 48, _, _, _, _, _⟩) rfl (fun K hK => ?evq207x22) AllReadyH.nil)
                      case evq207x22 =>
                        go_simp
                        (go_at_call 11; refine (P4.out _).mono ?_; rintro e9 w9 ⟨rfl, rfl⟩)
                        refine hK.out _ _ (hHeld) (fun hHeld2 => ?_)
                        clear hK K hHeld
                        have hHeld := hHeld2
                        clear hHeld2
                        try simp only [Act.put, List.setIfInBounds_toArray, List.set_cons_zero, List.set_cons_succ]
                        first
                          | (refine wpAnyH_take (i := 23) (oi := ⟨some 49, _, _, _, _, _⟩) (v := ?vq208x23) rfl (by kernel_rfl) (by kernel_rfl) (by kernel_rfl) (fun _ _ _ h => h) (Or.inl ⟨by rfl, ?hyq208x23⟩) hHeld ?rrq208x23
                             case hyq208x23 => (intro w hSw; obtain ⟨c0, c1, c2, c3⟩ := rr_first hSw; clear hSw; go_simp; try with_reducible rfl))
                          | (refine wpAnyH_take (i := 23) (oi := ⟨some 49, _, _, _, _, _⟩) (v := undef) rfl (by kernel_rfl) (by kernel_rfl) (by kernel_rfl) (fun _ _ _ h => h) (Or.inr ⟨by rfl, rfl⟩) hHeld ?rrq208x23)
                        try simp only [Act.put, List.setIfInBounds_toArray, List.set_cons_zero, List.set_cons_succ]
                        refine wpAnyH_ready (rs := [25]) (by kernel_rfl) (by simp) ?_
                        refine (AllReadyH.cons (o := ⟨none, _, _, _, _, _⟩) rfl (fun K hK => ?evq208x25) AllReadyH.nil)
                        case evq208x25 =>
                          obtain ⟨s0, s1, s2, s3, t0, t1, t2, t3⟩ := rz_cells hSt.out
                          have hSt5 := hSt.out.put ⟨netZ P NB, NB, 0, (fi : Int)⟩
                          go_simp
                          refine hK.out _ _ (hSt5.st.x) (fun hHeld2 => ?_)
                          clear hK K hHeld
                          have hHeld := hHeld2
                          clear hHeld2
                          try simp only [Act.put, List.setIfInBounds_toArray, List.set_cons_zero, List.set_cons_succ]
                          refine wpAnyH_done (by kernel_rfl) ?_ _
                          refine NoPanic.normal ?_
                          go_wp2_with fail
                          go_meet
                          exact ⟨Z, rfl, Lib.hid hSt5⟩
                case evq197x24 =>
                  go_simp
                  refine hK.out _ _ (blk_alloc hHeld _) (fun hHeld2 => ?_)
                  clear hK K hHeld
                  have hHeld := hHeld2
                  clear hHeld2
                  try simp only [Act.put, List.setIfInBounds_toArray, List.set_cons_zero, List.set_cons_succ]
                  have hSt := Lib.hid (RzSt.made hSt.out)
                  obtain ⟨Z, hZ⟩ : ∃ Z, Wd1.heap.size = Z := ⟨_, rfl⟩
                  obtain ⟨Wd2, hWn⟩ : ∃ Wn, Wd1.alloc (ro rz) = Wn := ⟨_, rfl⟩
                  have hlit := cell_alloc hlit (ro rz)
                  rw [hWn] at hlit
                  rw [show Wd1.alloc (.cells #[.int .i64 0, .int .i64 0, .int .i64 0, .int .i64 0] 29) = Wd2 from hWn] at hHeld ⊢
                  rw [hWn] at hSt
                  rw [hZ] at hSt ⊢
                  clear hZ hWn
                  refine wpAnyH_ready (rs := [16]) (by kernel_rfl) (by simp) ?_
                  refine (AllReadyH.cons (o := ⟨some 42, _, _, _, _, _⟩) rfl (fun K hK => ?evq210x16) AllReadyH.nil)
                  case evq210x16 =>
                    go_simp
                    refine hK.out _ _ (hHeld) (fun hHeld2 => ?_)
                    clear hK K hHeld
                    have hHeld := hHeld2
                    clear hHeld2
                    try simp only [Act.put, List.setIfInBounds_toArray, List.set_cons_zero, List.set_cons_succ]
                    clear hlit
                    refine wpAnyH_ready (rs := [17]) (by kernel_rfl) (by simp) ?_
                    refine (AllReadyH.cons (o := ⟨some 43, _, _, _, _, _⟩) rfl (fun K hK => ?evq211x17) AllReadyH.nil)
                    case evq211x17 =>
                      go_simp
                      (go_at_call 23; refine (HN.out _).mono ?_; rintro e9 Wd3 ⟨rfl, hb9⟩)
                      refine hK.out _ _ (blk_below hHeld hb9 (blk_lt hHeld)) (fun hHeld2 => ?_)
                      clear hK K hHeld
                      have hHeld := hHeld2
                      clear hHeld2
                      try simp only [Act.put, List.setIfInBounds_toArray, List.set_cons_zero, List.set_cons_succ]
                      have hSt := Lib.hid (hSt.out.below hb9)
                      clear hb9
                      refine wpAnyH_ready (rs := [22]) (by kernel_rfl) (by simp) ?_
                      refine (AllReadyH.cons (o := ⟨some 48, _, _, _, _, _⟩) rfl (fun K hK => ?evq212x22) AllReadyH.nil)
                      case evq212x22 =>
                        go_simp
                        (go_at_call 11; refine (P4.out _).mono ?_; rintro e9 w9 ⟨rfl, rfl⟩)
                        refine hK.out _ _ (hHeld) (fun hHeld2 => ?_)
                        clear hK K hHeld
                        have hHeld := hHeld2
                        clear hHeld2
                        try simp only [Act.put, List.setIfInBounds_toArray, List.set_cons_zero, List.set_cons_succ]
                        first
                          | (refine wpAnyH_take (i := 23) (oi := ⟨some 49, _, _, _, _, _⟩) (v := ?vq213x23) rfl (by kernel_rfl) (by kernel_rfl) (by kernel_rfl) (fun _ _ _ h => h) (Or.inl ⟨by rfl, ?hyq213x23⟩) hHeld ?rrq213x23
                             case hyq213x23 => (intro w hSw; obtain ⟨c0, c1, c2, c3⟩ := rr_first hSw; clear hSw; go_simp; try with_reducible rfl))
                          | (refine wpAnyH_take (i := 23) (oi := ⟨some 49, _, _, _, _, _⟩) (v := undef) rfl (by kernel_rfl) (by kernel_rfl) (by kernel_rfl) (fun _ _ _ h => h) (Or.inr ⟨by rfl, rfl⟩) hHeld ?rrq213x23)
                        try simp only [Act.put, List.setIfInBounds_toArray, List.set_cons_zero, List.set_cons_succ]
                        refine wpAnyH_ready (rs := [25]) (by kernel_rfl) (by simp) ?_
                        refine (AllReadyH.cons (o := ⟨none, _, _, _, _, _⟩) rfl (fun K hK => ?evq213x25) AllReadyH.nil)
                        case evq213x25 =>
                          obtain ⟨s0, s1, s2, s3, t0, t1, t2, t3⟩ := rz_cells hSt.out
                          have hSt5 := hSt.out.put ⟨netZ P NB, NB, 0, (fi : Int)⟩
                          go_simp
                          refine hK.out _ _ (hSt5.st.x) (fun hHeld2 => ?_)
                          clear hK K hHeld
                          have hHeld := hHeld2
                          clear hHeld2
                          try simp only [Act.put, List.setIfInBounds_toArray, List.set_cons_zero, List.set_cons_succ]
                          refine wpAnyH_done (by kernel_rfl) ?_ _
                          refine NoPanic.normal ?_
                          go_wp2_with fail
                          go_meet
                          exact ⟨Z, rfl, Lib.hid hSt5⟩
              case evq196x24 =>
                go_simp
                refine hK.out _ _ (blk_alloc hHeld _) (fun hHeld2 => ?_)
                clear hK K hHeld
                have hHeld := hHeld2
                clear hHeld2
                try simp only [Act.put, List.setIfInBounds_toArray, List.set_cons_zero, List.set_cons_succ]
                have hSt := Lib.hid (RzSt.made hSt.out)
                obtain ⟨Z, hZ⟩ : ∃ Z, Wd1.heap.size = Z := ⟨_, rfl⟩
                obtain ⟨Wd2, hWn⟩ : ∃ Wn, Wd1.alloc (ro rz) = Wn := ⟨_, rfl⟩
                have hlit := cell_alloc hlit (ro rz)
                rw [hWn] at hlit
                rw [show Wd1.alloc (.cells #[.int .i64 0, .int .i64 0, .int .i64 0, .int .i64 0] 29) = Wd2 from hWn] at hHeld ⊢
                rw [hWn] at hSt
                rw [hZ] at hSt ⊢
                clear hZ hWn
                refine wpAnyH_ready (rs := [14]) (by kernel_rfl) (by simp) ?_
                refine (AllReadyH.cons (o := ⟨some 40, _, _, _, _, _⟩) rfl (fun K hK => ?evq215x14) AllReadyH.nil)
                case evq215x14 =>
                  go_simp
                  (go_at_call 11; refine (P3.out _).mono ?_; rintro e9 w9 ⟨rfl, rfl⟩)
                  refine hK.out _ _ (hHeld) (fun hHeld2 => ?_)
                  clear hK K hHeld
                  have hHeld := hHeld2
                  clear hHeld2
                  try simp only [Act.put, List.setIfInBounds_toArray, List.set_cons_zero, List.set_cons_succ]
                  first
                    | (refine wpAnyH_take (i := 15) (oi := ⟨some 41, _, _, _, _, _⟩) (v := ?vq216x15) rfl (by kernel_rfl) (by kernel_rfl) (by kernel_rfl) (fun _ _ _ h => h) (Or.inl ⟨by rfl, ?hyq216x15⟩) hHeld ?rrq216x15
                       case hyq216x15 => (intro w hSw; obtain ⟨c0, c1, c2, c3⟩ := rr_first hSw; clear hSw; go_simp; try with_reducible rfl))
                    | (refine wpAnyH_take (i := 15) (oi := ⟨some 41, _, _, _, _, _⟩) (v := undef) rfl (by kernel_rfl) (by kernel_rfl) (by kernel_rfl) (fun _ _ _ h => h) (Or.inr ⟨by rfl, rfl⟩) hHeld ?rrq216x15)
                  try simp only [Act.put, List.setIfInBounds_toArray, List.set_cons_zero, List.set_cons_succ]
                  refine wpAnyH_ready (rs := [16]) (by kernel_rfl) (by simp) ?_
                  refine (AllReadyH.cons (o := ⟨some 42, _, _, _, _, _⟩) rfl (fun K hK => ?evq216x16) AllReadyH.nil)
                  case evq216x16 =>
                    go_simp
                    refine hK.out _ _ (hHeld) (fun hHeld2 => ?_)
                    clear hK K hHeld
                    have hHeld := hHeld2
                    clear hHeld2
                    try simp only [Act.put, List.setIfInBounds_toArray, List.set_cons_zero, List.set_cons_succ]
                    clear hlit
                    refine wpAnyH_ready (rs := [17]) (by kernel_rfl) (by simp) ?_
                    refine (AllReadyH.cons (o := ⟨some 43, _, _, _, _, _⟩) rfl (fun K hK => ?evq217x17) AllReadyH.nil)
                    case evq217x17 =>
                      go_simp
                      (go_at_call 23; refine (HN.out _).mono ?_; rintro e9 Wd3 ⟨rfl, hb9⟩)
                      refine hK.out _ _ (blk_below hHeld hb9 (blk_lt hHeld)) (fun hHeld2 => ?_)
                      clear hK K hHeld
                      have hHeld := hHeld2
                      clear hHeld2
                      try simp only [Act.put, List.setIfInBounds_toArray, List.set_cons_zero, List.set_cons_succ]
                      have hSt := Lib.hid (hSt.out.below hb9)
                      clear hb9
                      refine wpAnyH_ready (rs := [22]) (by kernel_rfl) (by simp) ?_
                      refine (AllReadyH.cons (o := ⟨some 48, _, _, _, _, _⟩) rfl (fun K hK => ?evq218x22) AllReadyH.nil)
                      case evq218x22 =>
                        go_simp
                        (go_at_call 11; refine (P4.out _).mono ?_; rintro e9 w9 ⟨rfl, rfl⟩)
                        refine hK.out _ _ (hHeld) (fun hHeld2 => ?_)
                        clear hK K hHeld
                        have hHeld := hHeld2
                        clear hHeld2
                        try simp only [Act.put, List.setIfInBounds_toArray, List.set_cons_zero, List.set_cons_succ]
                        first
                          | (refine wpAnyH_take (i := 23) (oi := ⟨some 49, _, _, _, _, _⟩) (v := ?vq219x23) rfl (by kernel_rfl) (by kernel_rfl) (by kernel_rfl) (fun _ _ _ h => h) (Or.inl ⟨by rfl, ?hyq219x23⟩) hHeld ?rrq219x23
                             case hyq219x23 => (intro w hSw; obtain ⟨c0, c1, c2, c3⟩ := rr_first hSw; clear hSw; go_simp; try with_reducible rfl))
                          | (refine wpAnyH_take (i := 23) (oi := ⟨some 49, _, _, _, _, _⟩) (v := undef) rfl (by kernel_rfl) (by kernel_rfl) (by kernel_rfl) (fun _ _ _ h => h) (Or.inr ⟨by rfl, rfl⟩) hHeld ?rrq219x23)
                        try simp only [Act.put, List.setIfInBounds_toArray, List.set_cons_zero, List.set_cons_succ]
                        refine wpAnyH_ready (rs := [25]) (by kernel_rfl) (by simp) ?_
                        refine (AllReadyH.cons (o := ⟨none, _, _, _, _, _⟩) rfl (fun K hK => ?evq219x25) AllReadyH.nil)
                        case evq219x25 =>
                          obtain ⟨s0, s1, s2, s3, t0, t1, t2, t3⟩ := rz_cells hSt.out
                          have hSt5 := hSt.out.put ⟨netZ P NB, NB, 0, (fi : Int)⟩
                          go_simp
                          refine hK.out _ _ (hSt5.st.x) (fun hHeld2 => ?_)
                          clear hK K hHeld
                          have hHeld := hHeld2
                          clear hHeld2
                          try simp only [Act.put, List.setIfInBounds_toArray, List.set_cons_zero, List.set_cons_succ]
                          refine wpAnyH_done (by kernel_rfl) ?_ _
                          refine NoPanic.normal ?_
                          go_wp2_with fail
                          go_meet
                          exact ⟨Z, rfl, Lib.hid hSt5⟩
            case evq195x14 =>
              go_simp
              (go_at_call 11; refine (P3.out _).mono ?_; rintro e9 w9 ⟨rfl, rfl⟩)
              refine hK.out _ _ (hHeld) (fun hHeld2 => ?_)
              clear hK K hHeld
              have hHeld := hHeld2
              clear hHeld2
              try simp only [Act.put, List.setIfInBounds_toArray, List.set_cons_zero, List.set_cons_succ]
              refine wpAnyH_ready (rs := [11, 24]) (by kernel_rfl) (by simp) ?_
              refine (AllReadyH.cons (o := ⟨some 37, _, _, _, _, _⟩) rfl (fun K hK => ?evq221x11) (AllReadyH.cons (o := ⟨some 8, _, _, _, _, _⟩) rfl (fun K hK => ?evq221x24) AllReadyH.nil))
              case evq221x11 =>
                go_simp
                refine hK.out _ _ (blk_alloc hHeld _) (fun hHeld2 => ?_)
                clear hK K hHeld
                have hHeld := hHeld2
                clear hHeld2
                try simp only [Act.put, List.setIfInBounds_toArray, List.set_cons_zero, List.set_cons_succ]
                have hlit := HLJ.out Wd
                have hSt := Lib.hid (hSt.out.below (below_alloc Wd oLit8))
                obtain ⟨L, hL⟩ : ∃ L, Wd.heap.size = L := ⟨_, rfl⟩
                obtain ⟨Wd1, hWn⟩ : ∃ Wn, Wd.alloc oLit8 = Wn := ⟨_, rfl⟩
                rw [hWn] at hlit hSt hHeld ⊢
                rw [hL] at hlit ⊢
                clear hL hWn
                first
                  | (refine wpAnyH_take (i := 15) (oi := ⟨some 41, _, _, _, _, _⟩) (v := ?vq222x15) rfl (by kernel_rfl) (by kernel_rfl) (by kernel_rfl) (fun _ _ _ h => h) (Or.inl ⟨by rfl, ?hyq222x15⟩) hHeld ?rrq222x15
                     case hyq222x15 => (intro w hSw; obtain ⟨c0, c1, c2, c3⟩ := rr_first hSw; clear hSw; go_simp; try with_reducible rfl))
                  | (refine wpAnyH_take (i := 15) (oi := ⟨some 41, _, _, _, _, _⟩) (v := undef) rfl (by kernel_rfl) (by kernel_rfl) (by kernel_rfl) (fun _ _ _ h => h) (Or.inr ⟨by rfl, rfl⟩) hHeld ?rrq222x15)
                try simp only [Act.put, List.setIfInBounds_toArray, List.set_cons_zero, List.set_cons_succ]
                refine wpAnyH_ready (rs := [16, 24]) (by kernel_rfl) (by simp) ?_
                refine (AllReadyH.cons (o := ⟨some 42, _, _, _, _, _⟩) rfl (fun K hK => ?evq222x16) (AllReadyH.cons (o := ⟨some 8, _, _, _, _, _⟩) rfl (fun K hK => ?evq222x24) AllReadyH.nil))
                case evq222x16 =>
                  go_simp
                  refine hK.out _ _ (hHeld) (fun hHeld2 => ?_)
                  clear hK K hHeld
                  have hHeld := hHeld2
                  clear hHeld2
                  try simp only [Act.put, List.setIfInBounds_toArray, List.set_cons_zero, List.set_cons_succ]
                  clear hlit
                  refine wpAnyH_ready (rs := [17, 24]) (by kernel_rfl) (by simp) ?_
                  refine (AllReadyH.cons (o := ⟨some 43, _, _, _, _, _⟩) rfl (fun K hK => ?evq223x17) (AllReadyH.cons (o := ⟨some 8, _, _, _, _, _⟩) rfl (fun K hK => ?evq223x24) AllReadyH.nil))
                  case evq223x17 =>
                    go_simp
                    (go_at_call 23; refine (HN.out _).mono ?_; rintro e9 Wd2 ⟨rfl, hb9⟩)
                    refine hK.out _ _ (blk_below hHeld hb9 (blk_lt hHeld)) (fun hHeld2 => ?_)
                    clear hK K hHeld
                    have hHeld := hHeld2
                    clear hHeld2
                    try simp only [Act.put, List.setIfInBounds_toArray, List.set_cons_zero, List.set_cons_succ]
                    have hSt := Lib.hid (hSt.out.below hb9)
                    clear hb9
                    refine wpAnyH_ready (rs := [22, 24]) (by kernel_rfl) (by simp) ?_
                    refine (AllReadyH.cons (o := ⟨some 48, _, _, _, _, _⟩) rfl (fun K hK => ?evq224x22) (AllReadyH.cons (o := ⟨some 8, _, _, _, _, _⟩) rfl (fun K hK => ?evq224x24) AllReadyH.nil))
                    case evq224x22 =>
                      go_simp
                      (go_at_call 11; refine (P4.out _).mono ?_; rintro e9 w9 ⟨rfl, rfl⟩)
                      refine hK.out _ _ (hHeld) (fun hHeld2 => ?_)
                      clear hK K hHeld
                      have hHeld := hHeld2
                      clear hHeld2
                      try simp only [Act.put, List.setIfInBounds_toArray, List.set_cons_zero, List.set_cons_succ]
                      first
                        | (refine wpAnyH_take (i := 23) (oi := ⟨some 49, _, _, _, _, _⟩) (v := ?vq225x23) rfl (by kernel_rfl) (by kernel_rfl) (by kernel_rfl) (fun _ _ _ h => h) (Or.inl ⟨by rfl, ?hyq225x23⟩) hHeld ?rrq225x23
                           case hyq225x23 => (intro w hSw; obtain ⟨c0, c1, c2, c3⟩ := rr_first hSw; clear hSw; go_simp; try with_reducible rfl))
                        | (refine wpAnyH_take (i := 23) (oi := ⟨some 49, _, _, _, _, _⟩) (v := undef) rfl (by kernel_rfl) (by kernel_rfl) (by kernel_rfl) (fun _ _ _ h => h) (Or.inr ⟨by rfl, rfl⟩) hHeld ?rrq225x23)
                      try simp only [Act.put, List.setIfInBounds_toArray, List.set_cons_zero, List.set_cons_succ]
                      refine wpAnyH_ready (rs := [24]) (by kernel_rfl) (by simp) ?_
                      refine (AllReadyH.cons (o := ⟨some 8, _, _, _, _, _⟩) rfl (fun K hK => ?evq225x24) AllReadyH.nil)
                      case evq225x24 =>
                        go_simp
                        refine hK.out _ _ (blk_alloc hHeld _) (fun hHeld2 => ?_)
                        clear hK K hHeld
                        have hHeld := hHeld2
                        clear hHeld2
                        try simp only [Act.put, List.setIfInBounds_toArray, List.set_cons_zero, List.set_cons_succ]
                        have hSt := Lib.hid (RzSt.made hSt.out)
                        obtain ⟨Z, hZ⟩ : ∃ Z, Wd2.heap.size = Z := ⟨_, rfl⟩
                        obtain ⟨Wd3, hWn⟩ : ∃ Wn, Wd2.alloc (ro rz) = Wn := ⟨_, rfl⟩
                        rw [show Wd2.alloc (.cells #[.int .i64 0, .int .i64 0, .int .i64 0, .int .i64 0] 29) = Wd3 from hWn] at hHeld ⊢
                        rw [hWn] at hSt
                        rw [hZ] at hSt ⊢
                        clear hZ hWn
                        refine wpAnyH_ready (rs := [25]) (by kernel_rfl) (by simp) ?_
                        refine (AllReadyH.cons (o := ⟨none, _, _, _, _, _⟩) rfl (fun K hK => ?evq226x25) AllReadyH.nil)
                        case evq226x25 =>
                          obtain ⟨s0, s1, s2, s3, t0, t1, t2, t3⟩ := rz_cells hSt.out
                          have hSt5 := hSt.out.put ⟨netZ P NB, NB, 0, (fi : Int)⟩
                          go_simp
                          refine hK.out _ _ (hSt5.st.x) (fun hHeld2 => ?_)
                          clear hK K hHeld
                          have hHeld := hHeld2
                          clear hHeld2
                          try simp only [Act.put, List.setIfInBounds_toArray, List.set_cons_zero, List.set_cons_succ]
                          refine wpAnyH_done (by kernel_rfl) ?_ _
                          refine NoPanic.normal ?_
                          go_wp2_with fail
                          go_meet
                          exact ⟨Z, rfl, Lib.hid hSt5⟩
                    case evq224x24 =>
                      go_simp
                      refine hK.out _ _ (blk_alloc hHeld _) (fun hHeld2 => ?_)
                      clear hK K hHeld
                      have hHeld := hHeld2
                      clear hHeld2
                      try simp only [Act.put, List.setIfInBounds_toArray, List.set_cons_zero, List.set_cons_succ]
                      have hSt := Lib.hid (RzSt.made hSt.out)
                      obtain ⟨Z, hZ⟩ : ∃ Z, Wd2.heap.size = Z := ⟨_, rfl⟩
                      obtain ⟨Wd3, hWn⟩ : ∃ Wn, Wd2.alloc (ro rz) = Wn := ⟨_, rfl⟩
                      rw [show Wd2.alloc (.cells #[.int .i64 0, .int .i64 0, .int .i64 0, .int .i64 0] 29) = Wd3 from hWn] at hHeld ⊢
                      rw [hWn] at hSt
                      rw [hZ] at hSt ⊢
                      clear hZ hWn
                      refine wpAnyH_ready (rs := [22]) (by kernel_rfl) (by simp) ?_
                      refine (AllReadyH.cons (o := ⟨some 48, _, _, _, _, _⟩) rfl (fun K hK => ?evq228x22) AllReadyH.nil)
                      case evq228x22 =>
                        go_simp
                        (go_at_call 11; refine (P4.out _).mono ?_; rintro e9 w9 ⟨rfl, rfl⟩)
                        refine hK.out _ _ (hHeld) (fun hHeld2 => ?_)
                        clear hK K hHeld
                        have hHeld := hHeld2
                        clear hHeld2
                        try simp only [Act.put, List.setIfInBounds_toArray, List.set_cons_zero, List.set_cons_succ]
                        first
                          | (refine wpAnyH_take (i := 23) (oi := ⟨some 49, _, _, _, _, _⟩) (v := ?vq229x23) rfl (by kernel_rfl) (by kernel_rfl) (by kernel_rfl) (fun _ _ _ h => h) (Or.inl ⟨by rfl, ?hyq229x23⟩) hHeld ?rrq229x23
                             case hyq229x23 => (intro w hSw; obtain ⟨c0, c1, c2, c3⟩ := rr_first hSw; clear hSw; go_simp; try with_reducible rfl))
                          | (refine wpAnyH_take (i := 23) (oi := ⟨some 49, _, _, _, _, _⟩) (v := undef) rfl (by kernel_rfl) (by kernel_rfl) (by kernel_rfl) (fun _ _ _ h => h) (Or.inr ⟨by rfl, rfl⟩) hHeld ?rrq229x23)
                        try simp only [Act.put, List.setIfInBounds_toArray, List.set_cons_zero, List.set_cons_succ]
                        refine wpAnyH_ready (rs := [25]) (by kernel_rfl) (by simp) ?_
                        refine (AllReadyH.cons (o := ⟨none, _, _, _, _, _⟩) rfl (fun K hK => ?evq229x25) AllReadyH.nil)
                        case evq229x25 =>
                          obtain ⟨s0, s1, s2, s3, t0, t1, t2, t3⟩ := rz_cells hSt.out
                          have hSt5 := hSt.out.put ⟨netZ P NB, NB, 0, (fi : Int)⟩
                          go_simp
                          refine hK.out _ _ (hSt5.st.x) (fun hHeld2 => ?_)
                          clear hK K hHeld
                          have hHeld := hHeld2
                          clear hHeld2
                          try simp only [Act.put, List.setIfInBounds_toArray, List.set_cons_zero, List.set_cons_succ]
                          refine wpAnyH_done (by kernel_rfl) ?_ _
                          refine NoPanic.normal ?_
                          go_wp2_with fail
                          go_meet
                          exact ⟨Z, rfl, Lib.hid hSt5⟩
                  case evq223x24 =>
                    go_simp
                    refine hK.out _ _ (blk_alloc hHeld _) (fun hHeld2 => ?_)
                    clear hK K hHeld
                    have hHeld := hHeld2
                    clear hHeld2
                    try simp only [Act.put, List.setIfInBounds_toArray, List.set_cons_zero, List.set_cons_succ]
                    have hSt := Lib.hid (RzSt.made hSt.out)
                    obtain ⟨Z, hZ⟩ : ∃ Z, Wd1.heap.size = Z := ⟨_, rfl⟩
                    obtain ⟨Wd2, hWn⟩ : ∃ Wn, Wd1.alloc (ro rz) = Wn := ⟨_, rfl⟩
                    rw [show Wd1.alloc (.cells #[.int .i64 0, .int .i64 0, .int .i64 0, .int .i64 0] 29) = Wd2 from hWn] at hHeld ⊢
                    rw [hWn] at hSt
                    rw [hZ] at hSt ⊢
                    clear hZ hWn
                    refine wpAnyH_ready (rs := [17]) (by kernel_rfl) (by simp) ?_
                    refine (AllReadyH.cons (o := ⟨some 43, _, _, _, _, _⟩) rfl (fun K hK => ?evq231x17) AllReadyH.nil)
                    case evq231x17 =>
                      go_simp
                      (go_at_call 23; refine (HN.out _).mono ?_; rintro e9 Wd3 ⟨rfl, hb9⟩)
                      refine hK.out _ _ (blk_below hHeld hb9 (blk_lt hHeld)) (fun hHeld2 => ?_)
                      clear hK K hHeld
                      have hHeld := hHeld2
                      clear hHeld2
                      try simp only [Act.put, List.setIfInBounds_toArray, List.set_cons_zero, List.set_cons_succ]
                      have hSt := Lib.hid (hSt.out.below hb9)
                      clear hb9
                      refine wpAnyH_ready (rs := [22]) (by kernel_rfl) (by simp) ?_
                      refine (AllReadyH.cons (o := ⟨some 48, _, _, _, _, _⟩) rfl (fun K hK => ?evq232x22) AllReadyH.nil)
                      case evq232x22 =>
                        go_simp
                        (go_at_call 11; refine (P4.out _).mono ?_; rintro e9 w9 ⟨rfl, rfl⟩)
                        refine hK.out _ _ (hHeld) (fun hHeld2 => ?_)
                        clear hK K hHeld
                        have hHeld := hHeld2
                        clear hHeld2
                        try simp only [Act.put, List.setIfInBounds_toArray, List.set_cons_zero, List.set_cons_succ]
                        first
                          | (refine wpAnyH_take (i := 23) (oi := ⟨some 49, _, _, _, _, _⟩) (v := ?vq233x23) rfl (by kernel_rfl) (by kernel_rfl) (by kernel_rfl) (fun _ _ _ h => h) (Or.inl ⟨by rfl, ?hyq233x23⟩) hHeld ?rrq233x23
                             case hyq233x23 => (intro w hSw; obtain ⟨c0, c1, c2, c3⟩ := rr_first hSw; clear hSw; go_simp; try with_reducible rfl))
                          | (refine wpAnyH_take (i := 23) (oi := ⟨some 49, _, _, _, _, _⟩) (v := undef) rfl (by kernel_rfl) (by kernel_rfl) (by kernel_rfl) (fun _ _ _ h => h) (Or.inr ⟨by rfl, rfl⟩) hHeld ?rrq233x23)
                        try simp only [Act.put, List.setIfInBounds_toArray, List.set_cons_zero, List.set_cons_succ]
                        refine wpAnyH_ready (rs := [25]) (by kernel_rfl) (by simp) ?_
                        refine (AllReadyH.cons (o := ⟨none, _, _, _, _, _⟩) rfl (fun K hK => ?evq233x25) AllReadyH.nil)
                        case evq233x25 =>
                          obtain ⟨s0, s1, s2, s3, t0, t1, t2, t3⟩ := rz_cells hSt.out
                          have hSt5 := hSt.out.put ⟨netZ P NB, NB, 0, (fi : Int)⟩
                          go_simp
                          refine hK.out _ _ (hSt5.st.x) (fun hHeld2 => ?_)
                          clear hK K hHeld
                          have hHeld := hHeld2
                          clear hHeld2
                          try simp only [Act.put, List.setIfInBounds_toArray, List.set_cons_zero, List.set_cons_succ]
                          refine wpAnyH_done (by kernel_rfl) ?_ _
                          refine NoPanic.normal ?_
                          go_wp2_with fail
                          go_meet
                          exact ⟨Z, rfl, Lib.hid hSt5⟩
                case evq222x24 =>
                  go_simp
                  refine hK.out _ _ (blk_alloc hHeld _) (fun hHeld2 => ?_)
                  clear hK K hHeld
                  have hHeld := hHeld2
                  clear hHeld2
                  try simp only [Act.put, List.setIfInBounds_toArray, List.set_cons_zero, List.set_cons_succ]
                  have hSt := Lib.hid (RzSt.made hSt.out)
                  obtain ⟨Z, hZ⟩ : ∃ Z, Wd1.heap.size = Z := ⟨_, rfl⟩
                  obtain ⟨Wd2, hWn⟩ : ∃ Wn, Wd1.alloc (ro rz) = Wn := ⟨_, rfl⟩
                  have hlit := cell_alloc hlit (ro rz)
                  rw [hWn] at hlit
                  rw [show Wd1.alloc (.cells #[.int .i64 0, .int .i64 0, .int .i64 0, .int .i64 0] 29) = Wd2 from hWn] at hHeld ⊢
                  rw [hWn] at hSt
                  rw [hZ] at hSt ⊢
                  clear hZ hWn
                  refine wpAnyH_ready (rs := [16]) (by kernel_rfl) (by simp) ?_
                  refine (AllReadyH.cons (o := ⟨some 42, _, _, _, _, _⟩) rfl (fun K hK => ?evq235x16) AllReadyH.nil)
                  case evq235x16 =>
                    go_simp
                    refine hK.out _ _ (hHeld) (fun hHeld2 => ?_)
                    clear hK K hHeld
                    have hHeld := hHeld2
                    clear hHeld2
                    try simp only [Act.put, List.setIfInBounds_toArray, List.set_cons_zero, List.set_cons_succ]
                    clear hlit
                    refine wpAnyH_ready (rs := [17]) (by kernel_rfl) (by simp) ?_
                    refine (AllReadyH.cons (o := ⟨some 43, _, _, _, _, _⟩) rfl (fun K hK => ?evq236x17) AllReadyH.nil)
                    case evq236x17 =>
                      go_simp
                      (go_at_call 23; refine (HN.out _).mono ?_; rintro e9 Wd3 ⟨rfl, hb9⟩)
                      refine hK.out _ _ (blk_below hHeld hb9 (blk_lt hHeld)) (fun hHeld2 => ?_)
                      clear hK K hHeld
                      have hHeld := hHeld2
                      clear hHeld2
                      try simp only [Act.put, List.setIfInBounds_toArray, List.set_cons_zero, List.set_cons_succ]
                      have hSt := Lib.hid (hSt.out.below hb9)
                      clear hb9
                      refine wpAnyH_ready (rs := [22]) (by kernel_rfl) (by simp) ?_
                      refine (AllReadyH.cons (o := ⟨some 48, _, _, _, _, _⟩) rfl (fun K hK => ?evq237x22) AllReadyH.nil)
                      case evq237x22 =>
                        go_simp
                        (go_at_call 11; refine (P4.out _).mono ?_; rintro e9 w9 ⟨rfl, rfl⟩)
                        refine hK.out _ _ (hHeld) (fun hHeld2 => ?_)
                        clear hK K hHeld
                        have hHeld := hHeld2
                        clear hHeld2
                        try simp only [Act.put, List.setIfInBounds_toArray, List.set_cons_zero, List.set_cons_succ]
                        first
                          | (refine wpAnyH_take (i := 23) (oi := ⟨some 49, _, _, _, _, _⟩) (v := ?vq238x23) rfl (by kernel_rfl) (by kernel_rfl) (by kernel_rfl) (fun _ _ _ h => h) (Or.inl ⟨by rfl, ?hyq238x23⟩) hHeld ?rrq238x23
                             case hyq238x23 => (intro w hSw; obtain ⟨c0, c1, c2, c3⟩ := rr_first hSw; clear hSw; go_simp; try with_reducible rfl))
                          | (refine wpAnyH_take (i := 23) (oi := ⟨some 49, _, _, _, _, _⟩) (v := undef) rfl (by kernel_rfl) (by kernel_rfl) (by kernel_rfl) (fun _ _ _ h => h) (Or.inr ⟨by rfl, rfl⟩) hHeld ?rrq238x23)
                        try simp only [Act.put, List.setIfInBounds_toArray, List.set_cons_zero, List.set_cons_succ]
                        refine wpAnyH_ready (rs := [25]) (by kernel_rfl) (by simp) ?_
                        refine (AllReadyH.cons (o := ⟨none, _, _, _, _, _⟩) rfl (fun K hK => ?evq238x25) AllReadyH.nil)
                        case evq238x25 =>
                          obtain ⟨s0, s1, s2, s3, t0, t1, t2, t3⟩ := rz_cells hSt.out
                          have hSt5 := hSt.out.put ⟨netZ P NB, NB, 0, (fi : Int)⟩
                          go_simp
                          refine hK.out _ _ (hSt5.st.x) (fun hHeld2 => ?_)
                          clear hK K hHeld
                          have hHeld := hHeld2
                          clear hHeld2
                          try simp only [Act.put, List.setIfInBounds_toArray, List.set_cons_zero, List.set_cons_succ]
                          refine wpAnyH_done (by kernel_rfl) ?_ _
                          refine NoPanic.normal ?_
                          go_wp2_with fail
                          go_meet
                          exact ⟨Z, rfl, Lib.hid hSt5⟩
              case evq221x24 =>
                go_simp
                refine hK.out _ _ (blk_alloc hHeld _) (fun hHeld2 => ?_)
                clear hK K hHeld
                have hHeld := hHeld2
                clear hHeld2
                try simp only [Act.put, List.setIfInBounds_toArray, List.set_cons_zero, List.set_cons_succ]
                have hSt := Lib.hid (RzSt.made hSt.out)
                obtain ⟨Z, hZ⟩ : ∃ Z, Wd.heap.size = Z := ⟨_, rfl⟩
                obtain ⟨Wd1, hWn⟩ : ∃ Wn, Wd.alloc (ro rz) = Wn := ⟨_, rfl⟩
                rw [show Wd.alloc (.cells #[.int .i64 0, .int .i64 0, .int .i64 0, .int .i64 0] 29) = Wd1 from hWn] at hHeld ⊢
                rw [hWn] at hSt
                rw [hZ] at hSt ⊢
                clear hZ hWn
                refine wpAnyH_ready (rs := [11]) (by kernel_rfl) (by simp) ?_
                refine (AllReadyH.cons (o := ⟨some 37, _, _, _, _, _⟩) rfl (fun K hK => ?evq240x11) AllReadyH.nil)
                case evq240x11 =>
                  go_simp
                  refine hK.out _ _ (blk_alloc hHeld _) (fun hHeld2 => ?_)
                  clear hK K hHeld
                  have hHeld := hHeld2
                  clear hHeld2
                  try simp only [Act.put, List.setIfInBounds_toArray, List.set_cons_zero, List.set_cons_succ]
                  have hlit := HLJ.out Wd1
                  have hSt := Lib.hid (hSt.out.below (below_alloc Wd1 oLit8))
                  obtain ⟨L, hL⟩ : ∃ L, Wd1.heap.size = L := ⟨_, rfl⟩
                  obtain ⟨Wd2, hWn⟩ : ∃ Wn, Wd1.alloc oLit8 = Wn := ⟨_, rfl⟩
                  rw [hWn] at hlit hSt hHeld ⊢
                  rw [hL] at hlit ⊢
                  clear hL hWn
                  first
                    | (refine wpAnyH_take (i := 15) (oi := ⟨some 41, _, _, _, _, _⟩) (v := ?vq241x15) rfl (by kernel_rfl) (by kernel_rfl) (by kernel_rfl) (fun _ _ _ h => h) (Or.inl ⟨by rfl, ?hyq241x15⟩) hHeld ?rrq241x15
                       case hyq241x15 => (intro w hSw; obtain ⟨c0, c1, c2, c3⟩ := rr_first hSw; clear hSw; go_simp; try with_reducible rfl))
                    | (refine wpAnyH_take (i := 15) (oi := ⟨some 41, _, _, _, _, _⟩) (v := undef) rfl (by kernel_rfl) (by kernel_rfl) (by kernel_rfl) (fun _ _ _ h => h) (Or.inr ⟨by rfl, rfl⟩) hHeld ?rrq241x15)
                  try simp only [Act.put, List.setIfInBounds_toArray, List.set_cons_zero, List.set_cons_succ]
                  refine wpAnyH_ready (rs := [16]) (by kernel_rfl) (by simp) ?_
                  refine (AllReadyH.cons (o := ⟨some 42, _, _, _, _, _⟩) rfl (fun K hK => ?evq241x16) AllReadyH.nil)
                  case evq241x16 =>
                    go_simp
                    refine hK.out _ _ (hHeld) (fun hHeld2 => ?_)
                    clear hK K hHeld
                    have hHeld := hHeld2
                    clear hHeld2
                    try simp only [Act.put, List.setIfInBounds_toArray, List.set_cons_zero, List.set_cons_succ]
                    clear hlit
                    refine wpAnyH_ready (rs := [17]) (by kernel_rfl) (by simp) ?_
                    refine (AllReadyH.cons (o := ⟨some 43, _, _, _, _, _⟩) rfl (fun K hK => ?evq242x17) AllReadyH.nil)
                    case evq242x17 =>
                      go_simp
                      (go_at_call 23; refine (HN.out _).mono ?_; rintro e9 Wd3 ⟨rfl, hb9⟩)
                      refine hK.out _ _ (blk_below hHeld hb9 (blk_lt hHeld)) (fun hHeld2 => ?_)
                      clear hK K hHeld
                      have hHeld := hHeld2
                      clear hHeld2
                      try simp only [Act.put, List.setIfInBounds_toArray, List.set_cons_zero, List.set_cons_succ]
                      have hSt := Lib.hid (hSt.out.below hb9)
                      clear hb9
                      refine wpAnyH_ready (rs := [22]) (by kernel_rfl) (by simp) ?_
                      refine (AllReadyH.cons (o := ⟨some 48, _, _, _, _, _⟩) rfl (fun K hK => ?evq243x22) AllReadyH.nil)
                      case evq243x22 =>
                        go_simp
                        (go_at_call 11; refine (P4.out _).mono ?_; rintro e9 w9 ⟨rfl, rfl⟩)
                        refine hK.out _ _ (hHeld) (fun hHeld2 => ?_)
                        clear hK K hHeld
                        have hHeld := hHeld2
                        clear hHeld2
                        try simp only [Act.put, List.setIfInBounds_toArray, List.set_cons_zero, List.set_cons_succ]
                        first
                          | (refine wpAnyH_take (i := 23) (oi := ⟨some 49, _, _, _, _, _⟩) (v := ?vq244x23) rfl (by kernel_rfl) (by kernel_rfl) (by kernel_rfl) (fun _ _ _ h => h) (Or.inl ⟨by rfl, ?hyq244x23⟩) hHeld ?rrq244x23
                             case hyq244x23 => (intro w hSw; obtain ⟨c0, c1, c2, c3⟩ := rr_first hSw; clear hSw; go_simp; try with_reducible rfl))
                          | (refine wpAnyH_take (i := 23) (oi := ⟨some 49, _, _, _, _, _⟩) (v := undef) rfl (by kernel_rfl) (by kernel_rfl) (by kernel_rfl) (fun _ _ _ h => h) (Or.inr ⟨by rfl, rfl⟩) hHeld ?rrq244x23)
                        try simp only [Act.put, List.setIfInBounds_toArray, List.set_cons_zero, List.set_cons_succ]
                        refine wpAnyH_ready (rs := [25]) (by kernel_rfl) (by simp) ?_
                        refine (AllReadyH.cons (o := ⟨none, _, _, _, _, _⟩) rfl (fun K hK => ?evq244x25) AllReadyH.nil)
                        case evq244x25 =>
                          obtain ⟨s0, s1, s2, s3, t0, t1, t2, t3⟩ := rz_cells hSt.out
                          have hSt5 := hSt.out.put ⟨netZ P NB, NB, 0, (fi : Int)⟩
                          go_simp
                          refine hK.out _ _ (hSt5.st.x) (fun hHeld2 => ?_)
                          clear hK K hHeld
                          have hHeld := hHeld2
                          clear hHeld2
                          try simp only [Act.put, List.setIfInBounds_toArray, List.set_cons_zero, List.set_cons_succ]
                          refine wpAnyH_done (by kernel_rfl) ?_ _
                          refine NoPanic.normal ?_
                          go_wp2_with fail
                          go_meet
                          exact ⟨Z, rfl, Lib.hid hSt5⟩
            case evq195x24 =>
              go_simp
              refine hK.out _ _ (blk_alloc hHeld _) (fun hHeld2 => ?_)
              clear hK K hHeld
              have hHeld := hHeld2
              clear hHeld2
              try simp only [Act.put, List.setIfInBounds_toArray, List.set_cons_zero, List.set_cons_succ]
              have hSt := Lib.hid (RzSt.made hSt.out)
              obtain ⟨Z, hZ⟩ : ∃ Z, Wd.heap.size = Z := ⟨_, rfl⟩
              obtain ⟨Wd1, hWn⟩ : ∃ Wn, Wd.alloc (ro rz) = Wn := ⟨_, rfl⟩
              rw [show Wd.alloc (.cells #[.int .i64 0, .int .i64 0, .int .i64 0, .int .i64 0] 29) = Wd1 from hWn] at hHeld ⊢
              rw [hWn] at hSt
              rw [hZ] at hSt ⊢
              clear hZ hWn
              refine wpAnyH_ready (rs := [11, 14]) (by kernel_rfl) (by simp) ?_
              refine (AllReadyH.cons (o := ⟨some 37, _, _, _, _, _⟩) rfl (fun K hK => ?evq246x11) (AllReadyH.cons (o := ⟨some 40, _, _, _, _, _⟩) rfl (fun K hK => ?evq246x14) AllReadyH.nil))
              case evq246x11 =>
                go_simp
                refine hK.out _ _ (blk_alloc hHeld _) (fun hHeld2 => ?_)
                clear hK K hHeld
                have hHeld := hHeld2
                clear hHeld2
                try simp only [Act.put, List.setIfInBounds_toArray, List.set_cons_zero, List.set_cons_succ]
                have hlit := HLJ.out Wd1
                have hSt := Lib.hid (hSt.out.below (below_alloc Wd1 oLit8))
                obtain ⟨L, hL⟩ : ∃ L, Wd1.heap.size = L := ⟨_, rfl⟩
                obtain ⟨Wd2, hWn⟩ : ∃ Wn, Wd1.alloc oLit8 = Wn := ⟨_, rfl⟩
                rw [hWn] at hlit hSt hHeld ⊢
                rw [hL] at hlit ⊢
                clear hL hWn
                refine wpAnyH_ready (rs := [14]) (by kernel_rfl) (by simp) ?_
                refine (AllReadyH.cons (o := ⟨some 40, _, _, _, _, _⟩) rfl (fun K hK => ?evq247x14) AllReadyH.nil)
                case evq247x14 =>
                  go_simp
                  (go_at_call 11; refine (P3.out _).mono ?_; rintro e9 w9 ⟨rfl, rfl⟩)
                  refine hK.out _ _ (hHeld) (fun hHeld2 => ?_)
                  clear hK K hHeld
                  have hHeld := hHeld2
                  clear hHeld2
                  try simp only [Act.put, List.setIfInBounds_toArray, List.set_cons_zero, List.set_cons_succ]
                  first
                    | (refine wpAnyH_take (i := 15) (oi := ⟨some 41, _, _, _, _, _⟩) (v := ?vq248x15) rfl (by kernel_rfl) (by kernel_rfl) (by kernel_rfl) (fun _ _ _ h => h) (Or.inl ⟨by rfl, ?hyq248x15⟩) hHeld ?rrq248x15
                       case hyq248x15 => (intro w hSw; obtain ⟨c0, c1, c2, c3⟩ := rr_first hSw; clear hSw; go_simp; try with_reducible rfl))
                    | (refine wpAnyH_take (i := 15) (oi := ⟨some 41, _, _, _, _, _⟩) (v := undef) rfl (by kernel_rfl) (by kernel_rfl) (by kernel_rfl) (fun _ _ _ h => h) (Or.inr ⟨by rfl, rfl⟩) hHeld ?rrq248x15)
                  try simp only [Act.put, List.setIfInBounds_toArray, List.set_cons_zero, List.set_cons_succ]
                  refine wpAnyH_ready (rs := [16]) (by kernel_rfl) (by simp) ?_
                  refine (AllReadyH.cons (o := ⟨some 42, _, _, _, _, _⟩) rfl (fun K hK => ?evq248x16) AllReadyH.nil)
                  case evq248x16 =>
                    go_simp
                    refine hK.out _ _ (hHeld) (fun hHeld2 => ?_)
                    clear hK K hHeld
                    have hHeld := hHeld2
                    clear hHeld2
                    try simp only [Act.put, List.setIfInBounds_toArray, List.set_cons_zero, List.set_cons_succ]
                    clear hlit
                    refine wpAnyH_ready (rs := [17]) (by kernel_rfl) (by simp) ?_
                    refine (AllReadyH.cons (o := ⟨some 43, _, _, _, _, _⟩) rfl (fun K hK => ?evq249x17) AllReadyH.nil)
                    case evq249x17 =>
                      go_simp
                      (go_at_call 23; refine (HN.out _).mono ?_; rintro e9 Wd3 ⟨rfl, hb9⟩)
                      refine hK.out _ _ (blk_below hHeld hb9 (blk_lt hHeld)) (fun hHeld2 => ?_)
                      clear hK K hHeld
                      have hHeld := hHeld2
                      clear hHeld2
                      try simp only [Act.put, List.setIfInBounds_toArray, List.set_cons_zero, List.set_cons_succ]
                      have hSt := Lib.hid (hSt.out.below hb9)
                      clear hb9
                      refine wpAnyH_ready (rs := [22]) (by kernel_rfl) (by simp) ?_
                      refine (AllReadyH.cons (o := ⟨some 48, _, _, _, _, _⟩) rfl (fun K hK => ?evq250x22) AllReadyH.nil)
                      case evq250x22 =>
                        go_simp
                        (go_at_call 11; refine (P4.out _).mono ?_; rintro e9 w9 ⟨rfl, rfl⟩)
                        refine hK.out _ _ (hHeld) (fun hHeld2 => ?_)
                        clear hK K hHeld
                        have hHeld := hHeld2
                        clear hHeld2
                        try simp only [Act.put, List.setIfInBounds_toArray, List.set_cons_zero, List.set_cons_succ]
                        first
                          | (refine wpAnyH_take (i := 23) (oi := ⟨some 49, _, _, _, _, _⟩) (v := ?vq251x23) rfl (by kernel_rfl) (by kernel_rfl) (by kernel_rfl) (fun _ _ _ h => h) (Or.inl ⟨by rfl, ?hyq251x23⟩) hHeld ?rrq251x23
                             case hyq251x23 => (intro w hSw; obtain ⟨c0, c1, c2, c3⟩ := rr_first hSw; clear hSw; go_simp; try with_reducible rfl))
                          | (refine wpAnyH_take (i := 23) (oi := ⟨some 49, _, _, _, _, _⟩) (v := undef) rfl (by kernel_rfl) (by kernel_rfl) (by kernel_rfl) (fun _ _ _ h => h) (Or.inr ⟨by rfl, rfl⟩) hHeld ?rrq251x23)
                        try simp only [Act.put, List.setIfInBounds_toArray, List.set_cons_zero, List.set_cons_succ]
                        refine wpAnyH_ready (rs := [25]) (by kernel_rfl) (by simp) ?_
                        refine (AllReadyH.cons (o := ⟨none, _, _, _, _, _⟩) rfl (fun K hK => ?evq251x25) AllReadyH.nil)
                        case evq251x25 =>
                          obtain ⟨s0, s1, s2, s3, t0, t1, t2, t3⟩ := rz_cells hSt.out
                          have hSt5 := hSt.out.put ⟨netZ P NB, NB, 0, (fi : Int)⟩
                          go_simp
                          refine hK.out _ _ (hSt5.st.x) (fun hHeld2 => ?_)
                          clear hK K hHeld
                          have hHeld := hHeld2
                          clear hHeld2
                          try simp only [Act.put, List.setIfInBounds_toArray, List.set_cons_zero, List.set_cons_succ]
                          refine wpAnyH_done (by kernel_rfl) ?_ _
                          refine NoPanic.normal ?_
                          go_wp2_with fail
                          go_meet
                          exact ⟨Z, rfl, Lib.hid hSt5⟩
              case evq246x14 =>
                go_simp
                (go_at_call 11; refine (P3.out _).mono ?_; rintro e9 w9 ⟨rfl, rfl⟩)
                refine hK.out _ _ (hHeld) (fun hHeld2 => ?_)
                clear hK K hHeld
                have hHeld := hHeld2
                clear hHeld2
                try simp only [Act.put, List.setIfInBounds_toArray, List.set_cons_zero, List.set_cons_succ]
                refine wpAnyH_ready (rs := [11]) (by kernel_rfl) (by simp) ?_
                refine (AllReadyH.cons (o := ⟨some 37, _, _, _, _, _⟩) rfl (fun K hK => ?evq253x11) AllReadyH.nil)
                case evq253x11 =>
                  go_simp
                  refine hK.out _ _ (blk_alloc hHeld _) (fun hHeld2 => ?_)
                  clear hK K hHeld
                  have hHeld := hHeld2
                  clear hHeld2
                  try simp only [Act.put, List.setIfInBounds_toArray, List.set_cons_zero, List.set_cons_succ]
                  have hlit := HLJ.out Wd1
                  have hSt := Lib.hid (hSt.out.below (below_alloc Wd1 oLit8))
                  obtain ⟨L, hL⟩ : ∃ L, Wd1.heap.size = L := ⟨_, rfl⟩
                  obtain ⟨Wd2, hWn⟩ : ∃ Wn, Wd1.alloc oLit8 = Wn := ⟨_, rfl⟩
                  rw [hWn] at hlit hSt hHeld ⊢
                  rw [hL] at hlit ⊢
                  clear hL hWn
                  first
                    | (refine wpAnyH_take (i := 15) (oi := ⟨some 41, _, _, _, _, _⟩) (v := ?vq254x15) rfl (by kernel_rfl) (by kernel_rfl) (by kernel_rfl) (fun _ _ _ h => h) (Or.inl ⟨by rfl, ?hyq254x15⟩) hHeld ?rrq254x15
                       case hyq254x15 => (intro w hSw; obtain ⟨c0, c1, c2, c3⟩ := rr_first hSw; clear hSw; go_simp; try with_reducible rfl))
                    | (refine wpAnyH_take (i := 15) (oi := ⟨some 41, _, _, _, _, _⟩) (v := undef) rfl (by kernel_rfl) (by kernel_rfl) (by kernel_rfl) (fun _ _ _ h => h) (Or.inr ⟨by rfl, rfl⟩) hHeld ?rrq254x15)
                  try simp only [Act.put, List.setIfInBounds_toArray, List.set_cons_zero, List.set_cons_succ]
                  refine wpAnyH_ready (rs := [16]) (by kernel_rfl) (by simp) ?_
                  refine (AllReadyH.cons (o := ⟨some 42, _, _, _, _, _⟩) rfl (fun K hK => ?evq254x16) AllReadyH.nil)
                  case evq254x16 =>
                    go_simp
                    refine hK.out _ _ (hHeld) (fun hHeld2 => ?_)
                    clear hK K hHeld
                    have hHeld := hHeld2
                    clear hHeld2
                    try simp only [Act.put, List.setIfInBounds_toArray, List.set_cons_zero, List.set_cons_succ]
                    clear hlit
                    refine wpAnyH_ready (rs := [17]) (by kernel_rfl) (by simp) ?_
                    refine (AllReadyH.cons (o := ⟨some 43, _, _, _, _, _⟩) rfl (fun K hK => ?evq255x17) AllReadyH.nil)
                    case evq255x17 =>
                      go_simp
                      (go_at_call 23; refine (HN.out _).mono ?_; rintro e9 Wd3 ⟨rfl, hb9⟩)
                      refine hK.out _ _ (blk_below hHeld hb9 (blk_lt hHeld)) (fun hHeld2 => ?_)
                      clear hK K hHeld
                      have hHeld := hHeld2
                      clear hHeld2
                      try simp only [Act.put, List.setIfInBounds_toArray, List.set_cons_zero, List.set_cons_succ]
                      have hSt := Lib.hid (hSt.out.below hb9)
                      clear hb9
                      refine wpAnyH_ready (rs := [22]) (by kernel_rfl) (by simp) ?_
                      refine (AllReadyH.cons (o := ⟨some 48, _, _, _, _, _⟩) rfl (fun K hK => ?evq256x22) AllReadyH.nil)
                      case evq256x22 =>
                        go_simp
                        (go_at_call 11; refine (P4.out _).mono ?_; rintro e9 w9 ⟨rfl, rfl⟩)
                        refine hK.out _ _ (hHeld) (fun hHeld2 => ?_)
                        clear hK K hHeld
                        have hHeld := hHeld2
                        clear hHeld2
                        try simp only [Act.put, List.setIfInBounds_toArray, List.set_cons_zero, List.set_cons_succ]
                        first
                          | (refine wpAnyH_take (i := 23) (oi := ⟨some 49, _, _, _, _, _⟩) (v := ?vq257x23) rfl (by kernel_rfl) (by kernel_rfl) (by kernel_rfl) (fun _ _ _ h => h) (Or.inl ⟨by rfl, ?hyq257x23⟩) hHeld ?rrq257x23
                             case hyq257x23 => (intro w hSw; obtain ⟨c0, c1, c2, c3⟩ := rr_first hSw; clear hSw; go_simp; try with_reducible rfl))
                          | (refine wpAnyH_take (i := 23) (oi := ⟨some 49, _, _, _, _, _⟩) (v := undef) rfl (by kernel_rfl) (by kernel_rfl) (by kernel_rfl) (fun _ _ _ h => h) (Or.inr ⟨by rfl, rfl⟩) hHeld ?rrq257x23)
                        try simp only [Act.put, List.setIfInBounds_toArray, List.set_cons_zero, List.set_cons_succ]
                        refine wpAnyH_ready (rs := [25]) (by kernel_rfl) (by simp) ?_
                        refine (AllReadyH.cons (o := ⟨none, _, _, _, _, _⟩) rfl (fun K hK => ?evq257x25) AllReadyH.nil)
                        case evq257x25 =>
                          obtain ⟨s0, s1, s2, s3, t0, t1, t2, t3⟩ := rz_cells hSt.out
                          have hSt5 := hSt.out.put ⟨netZ P NB, NB, 0, (fi : Int)⟩
                          go_simp
                          refine hK.out _ _ (hSt5.st.x) (fun hHeld2 => ?_)
                          clear hK K hHeld
                          have hHeld := hHeld2
                          clear hHeld2
                          try simp only [Act.put, List.setIfInBounds_toArray, List.set_cons_zero, List.set_cons_succ]
                          refine wpAnyH_done (by kernel_rfl) ?_ _
                          refine NoPanic.normal ?_
                          go_wp2_with fail
                          go_meet
                          exact ⟨Z, rfl, Lib.hid hSt5⟩
          case evq194x11 =>
            go_simp
            refine hK.out _ _ (blk_alloc hHeld _) (fun hHeld2 => ?_)
            clear hK K hHeld
            have hHeld := hHeld2
            clear hHeld2
            try simp only [Act.put, List.setIfInBounds_toArray, List.set_cons_zero, List.set_cons_succ]
            have hlit := HLJ.out Wd
            have hSt := Lib.hid (hSt.out.below (below_alloc Wd oLit8))
            obtain ⟨L, hL⟩ : ∃ L, Wd.heap.size = L := ⟨_, rfl⟩
            obtain ⟨Wd1, hWn⟩ : ∃ Wn, Wd.alloc oLit8 = Wn := ⟨_, rfl⟩
            rw [hWn] at hlit hSt hHeld ⊢
            rw [hL] at hlit ⊢
            clear hL hWn
            refine wpAnyH_ready (rs := [8, 24]) (by kernel_rfl) (by simp) ?_
            refine (AllReadyH.cons (o := ⟨some 34, _, _, _, _, _⟩) rfl (fun K hK => ?evq259x8) (AllReadyH.cons (o := ⟨some 8, _, _, _, _, _⟩) rfl (fun K hK => ?evq259x24) AllReadyH.nil))
            case evq259x8 =>
              go_simp
              (go_at_call 11; refine (P2.out _).mono ?_; rintro e9 w9 ⟨rfl, rfl⟩)
              refine hK.out _ _ (hHeld) (fun hHeld2 => ?_)
              clear hK K hHeld
              have hHeld := hHeld2
              clear hHeld2
              try simp only [Act.put, List.setIfInBounds_toArray, List.set_cons_zero, List.set_cons_succ]
              first
                | (refine wpAnyH_take (i := 9) (oi := ⟨some 35, _, _, _, _, _⟩) (v := ?vq260x9) rfl (by kernel_rfl) (by kernel_rfl) (by kernel_rfl) (fun _ _ _ h => h) (Or.inl ⟨by rfl, ?hyq260x9⟩) hHeld ?rrq260x9
                   case hyq260x9 => (intro w hSw; obtain ⟨c0, c1, c2, c3⟩ := rr_first hSw; clear hSw; go_simp; try with_reducible rfl))
                | (refine wpAnyH_take (i := 9) (oi := ⟨some 35, _, _, _, _, _⟩) (v := undef) rfl (by kernel_rfl) (by kernel_rfl) (by kernel_rfl) (fun _ _ _ h => h) (Or.inr ⟨by rfl, rfl⟩) hHeld ?rrq260x9)
              try simp only [Act.put, List.setIfInBounds_toArray, List.set_cons_zero, List.set_cons_succ]
              first
                | (refine wpAnyH_take (i := 10) (oi := ⟨some 36, _, _, _, _, _⟩) (v := ?vq260x10) rfl (by kernel_rfl) (by kernel_rfl) (by kernel_rfl) (fun _ _ _ h => h) (Or.inl ⟨by rfl, ?hyq260x10⟩) hHeld ?rrq260x10
                   case hyq260x10 => (intro w hSw; obtain ⟨c0, c1, c2, c3⟩ := rr_first hSw; clear hSw; go_simp; try with_reducible rfl))
                | (refine wpAnyH_take (i := 10) (oi := ⟨some 36, _, _, _, _, _⟩) (v := undef) rfl (by kernel_rfl) (by kernel_rfl) (by kernel_rfl) (fun _ _ _ h => h) (Or.inr ⟨by rfl, rfl⟩) hHeld ?rrq260x10)
              try simp only [Act.put, List.setIfInBounds_toArray, List.set_cons_zero, List.set_cons_succ]
              refine wpAnyH_ready (rs := [14, 24]) (by kernel_rfl) (by simp) ?_
              refine (AllReadyH.cons (o := ⟨some 40, _, _, _, _, _⟩) rfl (fun K hK => ?evq260x14) (AllReadyH.cons (o := ⟨some 8, _, _, _, _, _⟩) rfl (fun K hK => ?evq260x24) AllReadyH.nil))
              case evq260x14 =>
                go_simp
                (go_at_call 11; refine (P3.out _).mono ?_; rintro e9 w9 ⟨rfl, rfl⟩)
                refine hK.out _ _ (hHeld) (fun hHeld2 => ?_)
                clear hK K hHeld
                have hHeld := hHeld2
                clear hHeld2
                try simp only [Act.put, List.setIfInBounds_toArray, List.set_cons_zero, List.set_cons_succ]
                first
                  | (refine wpAnyH_take (i := 15) (oi := ⟨some 41, _, _, _, _, _⟩) (v := ?vq261x15) rfl (by kernel_rfl) (by kernel_rfl) (by kernel_rfl) (fun _ _ _ h => h) (Or.inl ⟨by rfl, ?hyq261x15⟩) hHeld ?rrq261x15
                     case hyq261x15 => (intro w hSw; obtain ⟨c0, c1, c2, c3⟩ := rr_first hSw; clear hSw; go_simp; try with_reducible rfl))
                  | (refine wpAnyH_take (i := 15) (oi := ⟨some 41, _, _, _, _, _⟩) (v := undef) rfl (by kernel_rfl) (by kernel_rfl) (by kernel_rfl) (fun _ _ _ h => h) (Or.inr ⟨by rfl, rfl⟩) hHeld ?rrq261x15)
                try simp only [Act.put, List.setIfInBounds_toArray, List.set_cons_zero, List.set_cons_succ]
                refine wpAnyH_ready (rs := [16, 24]) (by kernel_rfl) (by simp) ?_
                refine (AllReadyH.cons (o := ⟨some 42, _, _, _, _, _⟩) rfl (fun K hK => ?evq261x16) (AllReadyH.cons (o := ⟨some 8, _, _, _, _, _⟩) rfl (fun K hK => ?evq261x24) AllReadyH.nil))
                case evq261x16 =>
                  go_simp
                  refine hK.out _ _ (hHeld) (fun hHeld2 => ?_)
                  clear hK K hHeld
                  have hHeld := hHeld2
                  clear hHeld2
                  try simp only [Act.put, List.setIfInBounds_toArray, List.set_cons_zero, List.set_cons_succ]
                  clear hlit
                  refine wpAnyH_ready (rs := [17, 24]) (by kernel_rfl) (by simp) ?_
                  refine (AllReadyH.cons (o := ⟨some 43, _, _, _, _, _⟩) rfl (fun K hK => ?evq262x17) (AllReadyH.cons (o := ⟨some 8, _, _, _, _, _⟩) rfl (fun K hK => ?evq262x24) AllReadyH.nil))
                  case evq262x17 =>
                    go_simp
                    (go_at_call 23; refine (HN.out _).mono ?_; rintro e9 Wd2 ⟨rfl, hb9⟩)
                    refine hK.out _ _ (blk_below hHeld hb9 (blk_lt hHeld)) (fun hHeld2 => ?_)
                    clear hK K hHeld
                    have hHeld := hHeld2
                    clear hHeld2
                    try simp only [Act.put, List.setIfInBounds_toArray, List.set_cons_zero, List.set_cons_succ]
                    have hSt := Lib.hid (hSt.out.below hb9)
                    clear hb9
                    refine wpAnyH_ready (rs := [22, 24]) (by kernel_rfl) (by simp) ?_
                    refine (AllReadyH.cons (o := ⟨some 48, _, _, _, _, _⟩) rfl (fun K hK => ?evq263x22) (AllReadyH.cons (o := ⟨some 8, _, _, _, _, _⟩) rfl (fun K hK => ?evq263x24) AllReadyH.nil))
                    case evq263x22 =>
                      go_simp
                      (go_at_call 11; refine (P4.out _).mono ?_; rintro e9 w9 ⟨rfl, rfl⟩)
                      refine hK.out _ _ (hHeld) (fun hHeld2 => ?_)
                      clear hK K hHeld
                      have hHeld := hHeld2
                      clear hHeld2
                      try simp only [Act.put, List.setIfInBounds_toArray, List.set_cons_zero, List.set_cons_succ]
                      first
                        | (refine wpAnyH_take (i := 23) (oi := ⟨some 49, _, _, _, _, _⟩) (v := ?vq264x23) rfl (by kernel_rfl) (by kernel_rfl) (by kernel_rfl) (fun _ _ _ h => h) (Or.inl ⟨by rfl, ?hyq264x23⟩) hHeld ?rrq264x23
                           case hyq264x23 => (intro w hSw; obtain ⟨c0, c1, c2, c3⟩ := rr_first hSw; clear hSw; go_simp; try with_reducible rfl))
                        | (refine wpAnyH_take (i := 23) (oi := ⟨some 49, _, _, _, _, _⟩) (v := undef) rfl (by kernel_rfl) (by kernel_rfl) (by kernel_rfl) (fun _ _ _ h => h) (Or.inr ⟨by rfl, rfl⟩) hHeld ?rrq264x23)
                      try simp only [Act.put, List.setIfInBounds_toArray, List.set_cons_zero, List.set_cons_succ]
                      refine wpAnyH_ready (rs := [24]) (by kernel_rfl) (by simp) ?_
                      refine (AllReadyH.cons (o := ⟨some 8, _, _, _, _, _⟩) rfl (fun K hK => ?evq264x24) AllReadyH.nil)
                      case evq264x24 =>
                        go_simp
                        refine hK.out _ _ (blk_alloc hHeld _) (fun hHeld2 => ?_)
                        clear hK K hHeld
                        have hHeld := hHeld2
                        clear hHeld2
                        try simp only [Act.put, List.setIfInBounds_toArray, List.set_cons_zero, List.set_cons_succ]
                        have hSt := Lib.hid (RzSt.made hSt.out)
                        obtain ⟨Z, hZ⟩ : ∃ Z, Wd2.heap.size = Z := ⟨_, rfl⟩
                        obtain ⟨Wd3, hWn⟩ : ∃ Wn, Wd2.alloc (ro rz) = Wn := ⟨_, rfl⟩
                        rw [show Wd2.alloc (.cells #[.int .i64 0, .int .i64 0, .int .i64 0, .int .i64 0] 29) = Wd3 from hWn] at hHeld ⊢
                        rw [hWn] at hSt
                        rw [hZ] at hSt ⊢
                        clear hZ hWn
                        refine wpAnyH_ready (rs := [25]) (by kernel_rfl) (by simp) ?_
                        refine (AllReadyH.cons (o := ⟨none, _, _, _, _, _⟩) rfl (fun K hK => ?evq265x25) AllReadyH.nil)
                        case evq265x25 =>
                          obtain ⟨s0, s1, s2, s3, t0, t1, t2, t3⟩ := rz_cells hSt.out
                          have hSt5 := hSt.out.put ⟨netZ P NB, NB, 0, (fi : Int)⟩
                          go_simp
                          refine hK.out _ _ (hSt5.st.x) (fun hHeld2 => ?_)
                          clear hK K hHeld
                          have hHeld := hHeld2
                          clear hHeld2
                          try simp only [Act.put, List.setIfInBounds_toArray, List.set_cons_zero, List.set_cons_succ]
                          refine wpAnyH_done (by kernel_rfl) ?_ _
                          refine NoPanic.normal ?_
                          go_wp2_with fail
                          go_meet
                          exact ⟨Z, rfl, Lib.hid hSt5⟩
                    case evq263x24 =>
                      go_simp
                      refine hK.out _ _ (blk_alloc hHeld _) (fun hHeld2 => ?_)
                      clear hK K hHeld
                      have hHeld := hHeld2
                      clear hHeld2
                      try simp only [Act.put, List.setIfInBounds_toArray, List.set_cons_zero, List.set_cons_succ]
                      have hSt := Lib.hid (RzSt.made hSt.out)
                      obtain ⟨Z, hZ⟩ : ∃ Z, Wd2.heap.size = Z := ⟨_, rfl⟩
                      obtain ⟨Wd3, hWn⟩ : ∃ Wn, Wd2.alloc (ro rz) = Wn := ⟨_, rfl⟩
                      rw [show Wd2.alloc (.cells #[.int .i64 0, .int .i64 0, .int .i64 0, .int .i64 0] 29) = Wd3 from hWn] at hHeld ⊢
                      rw [hWn] at hSt
                      rw [hZ] at hSt ⊢
                      clear hZ hWn
                      refine wpAnyH_ready (rs := [22]) (by kernel_rfl) (by simp) ?_
                      refine (AllReadyH.cons (o := ⟨some 48, _, _, _, _, _⟩) rfl (fun K hK => ?evq267x22) AllReadyH.nil)
                      case evq267x22 =>
                        go_simp
                        (go_at_call 11; refine (P4.out _).mono ?_; rintro e9 w9 ⟨rfl, rfl⟩)
                        refine hK.out _ _ (hHeld) (fun hHeld2 => ?_)
                        clear hK K hHeld
                        have hHeld := hHeld2
                        clear hHeld2
                        try simp only [Act.put, List.setIfInBounds_toArray, List.set_cons_zero, List.set_cons_succ]
                        first
                          | (refine wpAnyH_take (i := 23) (oi := ⟨some 49, _, _, _, _, _⟩) (v := ?vq268x23) rfl (by kernel_rfl) (by kernel_rfl) (by kernel_rfl) (fun _ _ _ h => h) (Or.inl ⟨by rfl, ?hyq268x23⟩) hHeld ?rrq268x23
                             case hyq268x23 => (intro w hSw; obtain ⟨c0, c1, c2, c3⟩ := rr_first hSw; clear hSw; go_simp; try with_reducible rfl))
                          | (refine wpAnyH_take (i := 23) (oi := ⟨some 49, _, _, _, _, _⟩) (v := undef) rfl (by kernel_rfl) (by kernel_rfl) (by kernel_rfl) (fun _ _ _ h => h) (Or.inr ⟨by rfl, rfl⟩) hHeld ?rrq268x23)
                        try simp only [Act.put, List.setIfInBounds_toArray, List.set_cons_zero, List.set_cons_succ]
                        refine wpAnyH_ready (rs := [25]) (by kernel_rfl) (by simp) ?_
                        refine (AllReadyH.cons (o := ⟨none, _, _, _, _, _⟩) rfl (fun K hK => ?evq268x25) AllReadyH.nil)
                        case evq268x25 =>
                          obtain ⟨s0, s1, s2, s3, t0, t1, t2, t3⟩ := rz_cells hSt.out
                          have hSt5 := hSt.out.put ⟨netZ P NB, NB, 0, (fi : Int)⟩
                          go_simp
                          refine hK.out _ _ (hSt5.st.x) (fun hHeld2 => ?_)
                          clear hK K hHeld
                          have hHeld := hHeld2
                          clear hHeld2
                          try simp only [Act.put, List.setIfInBounds_toArray, List.set_cons_zero, List.set_cons_succ]
                          refine wpAnyH_done (by kernel_rfl) ?_ _
                          refine NoPanic.normal ?_
                          go_wp2_with fail
                          go_meet
                          exact ⟨Z, rfl, Lib.hid hSt5⟩
                  case evq262x24 =>
                    go_simp
                    refine hK.out _ _ (blk_alloc hHeld _) (fun hHeld2 => ?_)
                    clear hK K hHeld
                    have hHeld := hHeld2
                    clear hHeld2
                    try simp only [Act.put, List.setIfInBounds_toArray, List.set_cons_zero, List.set_cons_succ]
                    have hSt := Lib.hid (RzSt.made hSt.out)
                    obtain ⟨Z, hZ⟩ : ∃ Z, Wd1.heap.size = Z := ⟨_, rfl⟩
                    obtain ⟨Wd2, hWn⟩ : ∃ Wn, Wd1.alloc (ro rz) = Wn := ⟨_, rfl⟩
                    rw [show Wd1.alloc (.cells #[.int .i64 0, .int .i64 0, .int .i64 0, .int .i64 0] 29) = Wd2 from hWn] at hHeld ⊢
                    rw [hWn] at hSt
                    rw [hZ] at hSt ⊢
                    clear hZ hWn
                    refine wpAnyH_ready (rs := [17]) (by kernel_rfl) (by simp) ?_
                    refine (AllReadyH.cons (o := ⟨some 43, _, _, _, _, _⟩) rfl (fun K hK => ?evq270x17) AllReadyH.nil)
                    case evq270x17 =>
                      go_simp
                      (go_at_call 23; refine (HN.out _).mono ?_; rintro e9 Wd3 ⟨rfl, hb9⟩)
                      refine hK.out _ _ (blk_below hHeld hb9 (blk_lt hHeld)) (fun hHeld2 => ?_)
                      clear hK K hHeld
                      have hHeld := hHeld2
                      clear hHeld2
                      try simp only [Act.put, List.setIfInBounds_toArray, List.set_cons_zero, List.set_cons_succ]
                      have hSt := Lib.hid (hSt.out.below hb9)
                      clear hb9
                      refine wpAnyH_ready (rs := [22]) (by kernel_rfl) (by simp) ?_
                      refine (AllReadyH.cons (o := ⟨some 48, _, _, _, _, _⟩) rfl (fun K hK => ?evq271x22) AllReadyH.nil)
                      case evq271x22 =>
                        go_simp
                        (go_at_call 11; refine (P4.out _).mono ?_; rintro e9 w9 ⟨rfl, rfl⟩)
                        refine hK.out _ _ (hHeld) (fun hHeld2 => ?_)
                        clear hK K hHeld
                        have hHeld := hHeld2
                        clear hHeld2
                        try simp only [Act.put, List.setIfInBounds_toArray, List.set_cons_zero, List.set_cons_succ]
                        first
                          | (refine wpAnyH_take (i := 23) (oi := ⟨some 49, _, _, _, _, _⟩) (v := ?vq272x23) rfl (by kernel_rfl) (by kernel_rfl) (by kernel_rfl) (fun _ _ _ h => h) (Or.inl ⟨by rfl, ?hyq272x23⟩) hHeld ?rrq272x23
                             case hyq272x23 => (intro w hSw; obtain ⟨c0, c1, c2, c3⟩ := rr_first hSw; clear hSw; go_simp; try with_reducible rfl))
                          | (refine wpAnyH_take (i := 23) (oi := ⟨some 49, _, _, _, _, _⟩) (v := undef) rfl (by kernel_rfl) (by kernel_rfl) (by kernel_rfl) (fun _ _ _ h => h) (Or.inr ⟨by rfl, rfl⟩) hHeld ?rrq272x23)
                        try simp only [Act.put, List.setIfInBounds_toArray, List.set_cons_zero, List.set_cons_succ]
                        refine wpAnyH_ready (rs := [25]) (by kernel_rfl) (by simp) ?_
                        refine (AllReadyH.cons (o := ⟨none, _, _, _, _, _⟩) rfl (fun K hK => ?evq272x25) AllReadyH.nil)
                        case evq272x25 =>
                          obtain ⟨s0, s1, s2, s3, t0, t1, t2, t3⟩ := rz_cells hSt.out
                          have hSt5 := hSt.out.put ⟨netZ P NB, NB, 0, (fi : Int)⟩
                          go_simp
                          refine hK.out _ _ (hSt5.st.x) (fun hHeld2 => ?_)
                          clear hK K hHeld
                          have hHeld := hHeld2
                          clear hHeld2
                          try simp only [Act.put, List.setIfInBounds_toArray, List.set_cons_zero, List.set_cons_succ]
                          refine wpAnyH_done (by kernel_rfl) ?_ _
                          refine NoPanic.normal ?_
                          go_wp2_with fail
                          go_meet
                          exact ⟨Z, rfl, Lib.hid hSt5⟩
                case evq261x24 =>
                  go_simp
                  refine hK.out _ _ (blk_alloc hHeld _) (fun hHeld2 => ?_)
                  clear hK K hHeld
                  have hHeld := hHeld2
                  clear hHeld2
                  try simp only [Act.put, List.setIfInBounds_toArray, List.set_cons_zero, List.set_cons_succ]
                  have hSt := Lib.hid (RzSt.made hSt.out)
                  obtain ⟨Z, hZ⟩ : ∃ Z, Wd1.heap.size = Z := ⟨_, rfl⟩
                  obtain ⟨Wd2, hWn⟩ : ∃ Wn, Wd1.alloc (ro rz) = Wn := ⟨_, rfl⟩
                  have hlit := cell_alloc hlit (ro rz)
                  rw [hWn] at hlit
                  rw [show Wd1.alloc (.cells #[.int .i64 0, .int .i64 0, .int .i64 0, .int .i64 0] 29) = Wd2 from hWn] at hHeld ⊢
                  rw [hWn] at hSt
                  rw [hZ] at hSt ⊢
                  clear hZ hWn
                  refine wpAnyH_ready (rs := [16]) (by kernel_rfl) (by simp) ?_
                  refine (AllReadyH.cons (o := ⟨some 42, _, _, _, _, _⟩) rfl (fun K hK => ?evq274x16) AllReadyH.nil)
                  case evq274x16 =>
                    go_simp
                    refine hK.out _ _ (hHeld) (fun hHeld2 => ?_)
                    clear hK K hHeld
                    have hHeld := hHeld2
                    clear hHeld2
                    try simp only [Act.put, List.setIfInBounds_toArray, List.set_cons_zero, List.set_cons_succ]
                    clear hlit
                    refine wpAnyH_ready (rs := [17]) (by kernel_rfl) (by simp) ?_
                    refine (AllReadyH.cons (o := ⟨some 43, _, _, _, _, _⟩) rfl (fun K hK => ?evq275x17) AllReadyH.nil)
                    case evq275x17 =>
                      go_simp
                      (go_at_call 23; refine (HN.out _).mono ?_; rintro e9 Wd3 ⟨rfl, hb9⟩)
                      refine hK.out _ _ (blk_below hHeld hb9 (blk_lt hHeld)) (fun hHeld2 => ?_)
                      clear hK K hHeld
                      have hHeld := hHeld2
                      clear hHeld2
                      try simp only [Act.put, List.setIfInBounds_toArray, List.set_cons_zero, List.set_cons_succ]
                      have hSt := Lib.hid (hSt.out.below hb9)
                      clear hb9
                      refine wpAnyH_ready (rs := [22]) (by kernel_rfl) (by simp) ?_
                      refine (AllReadyH.cons (o := ⟨some 48, _, _, _, _, _⟩) rfl (fun K hK => ?evq276x22) AllReadyH.nil)
                      case evq276x22 =>
                        go_simp
                        (go_at_call 11; refine (P4.out _).mono ?_; rintro e9 w9 ⟨rfl, rfl⟩)
                        refine hK.out _ _ (hHeld) (fun hHeld2 => ?_)
                        clear hK K hHeld
                        have hHeld := hHeld2
                        clear hHeld2
                        try simp only [Act.put, List.setIfInBounds_toArray, List.set_cons_zero, List.set_cons_succ]
                        first
                          | (refine wpAnyH_take (i := 23) (oi := ⟨some 49, _, _, _, _, _⟩) (v := ?vq277x23) rfl (by kernel_rfl) (by kernel_rfl) (by kernel_rfl) (fun _ _ _ h => h) (Or.inl ⟨by rfl, ?hyq277x23⟩) hHeld ?rrq277x23
                             case hyq277x23 => (intro w hSw; obtain ⟨c0, c1, c2, c3⟩ := rr_first hSw; clear hSw; go_simp; try with_reducible rfl))
                          | (refine wpAnyH_take (i := 23) (oi := ⟨some 49, _, _, _, _, _⟩) (v := undef) rfl (by kernel_rfl) (by kernel_rfl) (by kernel_rfl) (fun _ _ _ h => h) (Or.inr ⟨by rfl, rfl⟩) hHeld ?rrq277x23)
                        try simp only [Act.put, List.setIfInBounds_toArray, List.set_cons_zero, List.set_cons_succ]
                        refine wpAnyH_ready (rs := [25]) (by kernel_rfl) (by simp) ?_
                        refine (AllReadyH.cons (o := ⟨none, _, _, _, _, _⟩) rfl (fun K hK => ?evq277x25) AllReadyH.nil)
                        case evq277x25 =>
                          obtain ⟨s0, s1, s2, s3, t0, t1, t2, t3⟩ := rz_cells hSt.out
                          have hSt5 := hSt.out.put ⟨netZ P NB, NB, 0, (fi : Int)⟩
                          go_simp
                          refine hK.out _ _ (hSt5.st.x) (fun hHeld2 => ?_)
                          clear hK K hHeld
                          have hHeld := hHeld2
                          clear hHeld2
                          try simp only [Act.put, List.setIfInBounds_toArray, List.set_cons_zero, List.set_cons_succ]
                          refine wpAnyH_done (by kernel_rfl) ?_ _
                          refine NoPanic.normal ?_
                          go_wp2_with fail
                          go_meet
                          exact ⟨Z, rfl, Lib.hid hSt5⟩
              case evq260x24 =>
                go_simp
                refine hK.out _ _ (blk_alloc hHeld _) (fun hHeld2 => ?_)
                clear hK K hHeld
                have hHeld := hHeld2
                clear hHeld2
                try simp only [Act.put, List.setIfInBounds_toArray, List.set_cons_zero, List.set_cons_succ]
                have hSt := Lib.hid (RzSt.made hSt.out)
                obtain ⟨Z, hZ⟩ : ∃ Z, Wd1.heap.size = Z := ⟨_, rfl⟩
                obtain ⟨Wd2, hWn⟩ : ∃ Wn, Wd1.alloc (ro rz) = Wn := ⟨_, rfl⟩
                have hlit := cell_alloc hlit (ro rz)
                rw [hWn] at hlit
                rw [show Wd1.alloc (.cells #[.int .i64 0, .int .i64 0, .int .i64 0, .int .i64 0] 29) = Wd2 from hWn] at hHeld ⊢
                rw [hWn] at hSt
                rw [hZ] at hSt ⊢
                clear hZ hWn
                refine wpAnyH_ready (rs := [14]) (by kernel_rfl) (by simp) ?_
                refine (AllReadyH.cons (o := ⟨some 40, _, _, _, _, _⟩) rfl (fun K hK => ?evq279x14) AllReadyH.nil)
                case evq279x14 =>
                  go_simp
                  (go_at_call 11; refine (P3.out _).mono ?_; rintro e9 w9 ⟨rfl, rfl⟩)
                  refine hK.out _ _ (hHeld) (fun hHeld2 => ?_)
                  clear hK K hHeld
                  have hHeld := hHeld2
                  clear hHeld2
                  try simp only [Act.put, List.setIfInBounds_toArray, List.set_cons_zero, List.set_cons_succ]
                  first
                    | (refine wpAnyH_take (i := 15) (oi := ⟨some 41, _, _, _, _, _⟩) (v := ?vq280x15) rfl (by kernel_rfl) (by kernel_rfl) (by kernel_rfl) (fun _ _ _ h => h) (Or.inl ⟨by rfl, ?hyq280x15⟩) hHeld ?rrq280x15
                       case hyq280x15 => (intro w hSw; obtain ⟨c0, c1, c2, c3⟩ := rr_first hSw; clear hSw; go_simp; try with_reducible rfl))
                    | (refine wpAnyH_take (i := 15) (oi := ⟨some 41, _, _, _, _, _⟩) (v := undef) rfl (by kernel_rfl) (by kernel_rfl) (by kernel_rfl) (fun _ _ _ h => h) (Or.inr ⟨by rfl, rfl⟩) hHeld ?rrq280x15)
                  try simp only [Act.put, List.setIfInBounds_toArray, List.set_cons_zero, List.set_cons_succ]
                  refine wpAnyH_ready (rs := [16]) (by kernel_rfl) (by simp) ?_
                  refine (AllReadyH.cons (o := ⟨some 42, _, _, _, _, _⟩) rfl (fun K hK => ?evq280x16) AllReadyH.nil)
                  case evq280x16 =>
                    go_simp
                    refine hK.out _ _ (hHeld) (fun hHeld2 => ?_)
                    clear hK K hHeld
                    have hHeld := hHeld2
                    clear hHeld2
                    try simp only [Act.put, List.setIfInBounds_toArray, List.set_cons_zero, List.set_cons_succ]
                    clear hlit
                    refine wpAnyH_ready (rs := [17]) (by kernel_rfl) (by simp) ?_
                    refine (AllReadyH.cons (o := ⟨some 43, _, _, _, _, _⟩) rfl (fun K hK => ?evq281x17) AllReadyH.nil)
                    case evq281x17 =>
                      go_simp
                      (go_at_call 23; refine (HN.out _).mono ?_; rintro e9 Wd3 ⟨rfl, hb9⟩)
                      refine hK.out _ _ (blk_below hHeld hb9 (blk_lt hHeld)) (fun hHeld2 => ?_)
                      clear hK K hHeld
                      have hHeld := hHeld2
                      clear hHeld2
                      try simp only [Act.put, List.setIfInBounds_toArray, List.set_cons_zero, List.set_cons_succ]
                      have hSt := Lib.hid (hSt.out.below hb9)
                      clear hb9
                      refine wpAnyH_ready (rs := [22]) (by kernel_rfl) (by simp) ?_
                      refine (AllReadyH.cons (o := ⟨some 48, _, _, _, _, _⟩) rfl (fun K hK => ?evq282x22) AllReadyH.nil)
                      case evq282x22 =>
                        go_simp
                        (go_at_call 11; refine (P4.out _).mono ?_; rintro e9 w9 ⟨rfl, rfl⟩)
                        refine hK.out _ _ (hHeld) (fun hHeld2 => ?_)
                        clear hK K hHeld
                        have hHeld := hHeld2
                        clear hHeld2
                        try simp only [Act.put, List.setIfInBounds_toArray, List.set_cons_zero, List.set_cons_succ]
                        first
                          | (refine wpAnyH_take (i := 23) (oi := ⟨some 49, _, _, _, _, _⟩) (v := ?vq283x23) rfl (by kernel_rfl) (by kernel_rfl) (by kernel_rfl) (fun _ _ _ h => h) (Or.inl ⟨by rfl, ?hyq283x23⟩) hHeld ?rrq283x23
                             case hyq283x23 => (intro w hSw; obtain ⟨c0, c1, c2, c3⟩ := rr_first hSw; clear hSw; go_simp; try with_reducible rfl))
                          | (refine wpAnyH_take (i := 23) (oi := ⟨some 49, _, _, _, _, _⟩) (v := undef) rfl (by kernel_rfl) (by kernel_rfl) (by kernel_rfl) (fun _ _ _ h => h) (Or.inr ⟨by rfl, rfl⟩) hHeld ?rrq283x23)
                        try simp only [Act.put, List.setIfInBounds_toArray, List.set_cons_zero, List.set_cons_succ]
                        refine wpAnyH_ready (rs := [25]) (by kernel_rfl) (by simp) ?_
                        refine (AllReadyH.cons (o := ⟨none, _, _, _, _, _⟩) rfl (fun K hK => ?evq283x25) AllReadyH.nil)
                        case evq283x25 =>
                          obtain ⟨s0, s1, s2, s3, t0, t1, t2, t3⟩ := rz_cells hSt.out
                          have hSt5 := hSt.out.put ⟨netZ P NB, NB, 0, (fi : Int)⟩
                          go_simp
                          refine hK.out _ _ (hSt5.st.x) (fun hHeld2 => ?_)
                          clear hK K hHeld
                          have hHeld := hHeld2
                          clear hHeld2
                          try simp only [Act.put, List.setIfInBounds_toArray, List.set_cons_zero, List.set_cons_succ]
                          refine wpAnyH_done (by kernel_rfl) ?_ _
                          refine NoPanic.normal ?_
                          go_wp2_with fail
                          go_meet
                          exact ⟨Z, rfl, Lib.hid hSt5⟩
            case evq259x24 =>
              go_simp
              refine hK.out _ _ (blk_alloc hHeld _) (fun hHeld2 => ?_)
              clear hK K hHeld
              have hHeld := hHeld2
              clear hHeld2
              try simp only [Act.put, List.setIfInBounds_toArray, List.set_cons_zero, List.set_cons_succ]
              have hSt := Lib.hid (RzSt.made hSt.out)
              obtain ⟨Z, hZ⟩ : ∃ Z, Wd1.heap.size = Z := ⟨_, rfl⟩
              obtain ⟨Wd2, hWn⟩ : ∃ Wn, Wd1.alloc (ro rz) = Wn := ⟨_, rfl⟩
              have hlit := cell_alloc hlit (ro rz)
              rw [hWn] at hlit
              rw [show Wd1.alloc (.cells #[.int .i64 0, .int .i64 0, .int .i64 0, .int .i64 0] 29) = Wd2 from hWn] at hHeld ⊢
              rw [hWn] at hSt
              rw [hZ] at hSt ⊢
              clear hZ hWn
              refine wpAnyH_ready (rs := [8]) (by kernel_rfl) (by simp) ?_
              refine (AllReadyH.cons (o := ⟨some 34, _, _, _, _, _⟩) rfl (fun K hK => ?evq285x8) AllReadyH.nil)
              case evq285x8 =>
                go_simp
                (go_at_call 11; refine (P2.out _).mono ?_; rintro e9 w9 ⟨rfl, rfl⟩)
                refine hK.out _ _ (hHeld) (fun hHeld2 => ?_)
                clear hK K hHeld
                have hHeld := hHeld2
                clear hHeld2
                try simp only [Act.put, List.setIfInBounds_toArray, List.set_cons_zero, List.set_cons_succ]
                first
                  | (refine wpAnyH_take (i := 9) (oi := ⟨some 35, _, _, _, _, _⟩) (v := ?vq286x9) rfl (by kernel_rfl) (by kernel_rfl) (by kernel_rfl) (fun _ _ _ h => h) (Or.inl ⟨by rfl, ?hyq286x9⟩) hHeld ?rrq286x9
                     case hyq286x9 => (intro w hSw; obtain ⟨c0, c1, c2, c3⟩ := rr_first hSw; clear hSw; go_simp; try with_reducible rfl))
                  | (refine wpAnyH_take (i := 9) (oi := ⟨some 35, _, _, _, _, _⟩) (v := undef) rfl (by kernel_rfl) (by kernel_rfl) (by kernel_rfl) (fun _ _ _ h => h) (Or.inr ⟨by rfl, rfl⟩) hHeld ?rrq286x9)
                try simp only [Act.put, List.setIfInBounds_toArray, List.set_cons_zero, List.set_cons_succ]
                first
                  | (refine wpAnyH_take (i := 10) (oi := ⟨some 36, _, _, _, _, _⟩) (v := ?vq286x10) rfl (by kernel_rfl) (by kernel_rfl) (by kernel_rfl) (fun _ _ _ h => h) (Or.inl ⟨by rfl, ?hyq286x10⟩) hHeld ?rrq286x10
                     case hyq286x10 => (intro w hSw; obtain ⟨c0, c1, c2, c3⟩ := rr_first hSw; clear hSw; go_simp; try with_reducible rfl))
                  | (refine wpAnyH_take (i := 10) (oi := ⟨some 36, _, _, _, _, _⟩) (v := undef) rfl (by kernel_rfl) (by kernel_rfl) (by kernel_rfl) (fun _ _ _ h => h) (Or.inr ⟨by rfl, rfl⟩) hHeld ?rrq286x10)
                try simp only [Act.put, List.setIfInBounds_toArray, List.set_cons_zero, List.set_cons_succ]
                refine wpAnyH_ready (rs := [14]) (by kernel_rfl) (by simp) ?_
                refine (AllReadyH.cons (o := ⟨some 40, _, _, _, _, _⟩) rfl (fun K hK => ?evq286x14) AllReadyH.nil)
                case evq286x14 =>
                  go_simp
                  (go_at_call 11; refine (P3.out _).mono ?_; rintro e9 w9 ⟨rfl, rfl⟩)
                  refine hK.out _ _ (hHeld) (fun hHeld2 => ?_)
                  clear hK K hHeld
                  have hHeld := hHeld2
                  clear hHeld2
                  try simp only [Act.put, List.setIfInBounds_toArray, List.set_cons_zero, List.set_cons_succ]
                  first
                    | (refine wpAnyH_take (i := 15) (oi := ⟨some 41, _, _, _, _, _⟩) (v := ?vq287x15) rfl (by kernel_rfl) (by kernel_rfl) (by kernel_rfl) (fun _ _ _ h => h) (Or.inl ⟨by rfl, ?hyq287x15⟩) hHeld ?rrq287x15
                       case hyq287x15 => (intro w hSw; obtain ⟨c0, c1, c2, c3⟩ := rr_first hSw; clear hSw; go_simp; try with_reducible rfl))
                    | (refine wpAnyH_take (i := 15) (oi := ⟨some 41, _, _, _, _, _⟩) (v := undef) rfl (by kernel_rfl) (by kernel_rfl) (by kernel_rfl) (fun _ _ _ h => h) (Or.inr ⟨by rfl, rfl⟩) hHeld ?rrq287x15)
                  try simp only [Act.put, List.setIfInBounds_toArray, List.set_cons_zero, List.set_cons_succ]
                  refine wpAnyH_ready (rs := [16]) (by kernel_rfl) (by simp) ?_
                  refine (AllReadyH.cons (o := ⟨some 42, _, _, _, _, _⟩) rfl (fun K hK => ?evq287x16) AllReadyH.nil)
                  case evq287x16 =>
                    go_simp
                    refine hK.out _ _ (hHeld) (fun hHeld2 => ?_)
                    clear hK K hHeld
                    have hHeld := hHeld2
                    clear hHeld2
                    try simp only [Act.put, List.setIfInBounds_toArray, List.set_cons_zero, List.set_cons_succ]
                    clear hlit
                    refine wpAnyH_ready (rs := [17]) (by kernel_rfl) (by simp) ?_
                    refine (AllReadyH.cons (o := ⟨some 43, _, _, _, _, _⟩) rfl (fun K hK => ?evq288x17) AllReadyH.nil)
                    case evq288x17 =>
                      go_simp
                      (go_at_call 23; refine (HN.out _).mono ?_; rintro e9 Wd3 ⟨rfl, hb9⟩)
                      refine hK.out _ _ (blk_below hHeld hb9 (blk_lt hHeld)) (fun hHeld2 => ?_)
                      clear hK K hHeld
                      have hHeld := hHeld2
                      clear hHeld2
                      try simp only [Act.put, List.setIfInBounds_toArray, List.set_cons_zero, List.set_cons_succ]
                      have hSt := Lib.hid (hSt.out.below hb9)
                      clear hb9
                      refine wpAnyH_ready (rs := [22]) (by kernel_rfl) (by simp) ?_
                      refine (AllReadyH.cons (o := ⟨some 48, _, _, _, _, _⟩) rfl (fun K hK => ?evq289x22) AllReadyH.nil)
                      case evq289x22 =>
                        go_simp
                        (go_at_call 11; refine (P4.out _).mono ?_; rintro e9 w9 ⟨rfl, rfl⟩)
                        refine hK.out _ _ (hHeld) (fun hHeld2 => ?_)
                        clear hK K hHeld
                        have hHeld := hHeld2
                        clear hHeld2
                        try simp only [Act.put, List.setIfInBounds_toArray, List.set_cons_zero, List.set_cons_succ]
                        first
                          | (refine wpAnyH_take (i := 23) (oi := ⟨some 49, _, _, _, _, _⟩) (v := ?vq290x23) rfl (by kernel_rfl) (by kernel_rfl) (by kernel_rfl) (fun _ _ _ h => h) (Or.inl ⟨by rfl, ?hyq290x23⟩) hHeld ?rrq290x23
                             case hyq290x23 => (intro w hSw; obtain ⟨c0, c1, c2, c3⟩ := rr_first hSw; clear hSw; go_simp; try with_reducible rfl))
                          | (refine wpAnyH_take (i := 23) (oi := ⟨some 49, _, _, _, _, _⟩) (v := undef) rfl (by kernel_rfl) (by kernel_rfl) (by kernel_rfl) (fun _ _ _ h => h) (Or.inr ⟨by rfl, rfl⟩) hHeld ?rrq290x23)
                        try simp only [Act.put, List.setIfInBounds_toArray, List.set_cons_zero, List.set_cons_succ]
                        refine wpAnyH_ready (rs := [25]) (by kernel_rfl) (by simp) ?_
                        refine (AllReadyH.cons (o := ⟨none, _, _, _, _, _⟩) rfl (fun K hK => ?evq290x25) AllReadyH.nil)
                        case evq290x25 =>
                          obtain ⟨s0, s1, s2, s3, t0, t1, t2, t3⟩ := rz_cells hSt.out
                          have hSt5 := hSt.out.put ⟨netZ P NB, NB, 0, (fi : Int)⟩
                          go_simp
                          refine hK.out _ _ (hSt5.st.x) (fun hHeld2 => ?_)
                          clear hK K hHeld
                          have hHeld := hHeld2
                          clear hHeld2
                          try simp only [Act.put, List.setIfInBounds_toArray, List.set_cons_zero, List.set_cons_succ]
                          refine wpAnyH_done (by kernel_rfl) ?_ _
                          refine NoPanic.normal ?_
                          go_wp2_with fail
                          go_meet
                          exact ⟨Z, rfl, Lib.hid hSt5⟩
          case evq194x24 =>
            go_simp
            refine hK.out _ _ (blk_alloc hHeld _) (fun hHeld2 => ?_)
            clear hK K hHeld
            have hHeld := hHeld2
            clear hHeld2
            try simp only [Act.put, List.setIfInBounds_toArray, List.set_cons_zero, List.set_cons_succ]
            have hSt := Lib.hid (RzSt.made hSt.out)
            obtain ⟨Z, hZ⟩ : ∃ Z, Wd.heap.size = Z := ⟨_, rfl⟩
            obtain ⟨Wd1, hWn⟩ : ∃ Wn, Wd.alloc (ro rz) = Wn := ⟨_, rfl⟩
            rw [show Wd.alloc (.cells #[.int .i64 0, .int .i64 0, .int .i64 0, .int .i64 0] 29) = Wd1 from hWn] at hHeld ⊢
            rw [hWn] at hSt
            rw [hZ] at hSt ⊢
            clear hZ hWn
            refine wpAnyH_ready (rs := [8, 11]) (by kernel_rfl) (by simp) ?_
            refine (AllReadyH.cons (o := ⟨some 34, _, _, _, _, _⟩) rfl (fun K hK => ?evq292x8) (AllReadyH.cons (o := ⟨some 37, _, _, _, _, _⟩) rfl (fun K hK => ?evq292x11) AllReadyH.nil))
            case evq292x8 =>
              go_simp
              (go_at_call 11; refine (P2.out _).mono ?_; rintro e9 w9 ⟨rfl, rfl⟩)
              refine hK.out _ _ (hHeld) (fun hHeld2 => ?_)
              clear hK K hHeld
              have hHeld := hHeld2
              clear hHeld2
              try simp only [Act.put, List.setIfInBounds_toArray, List.set_cons_zero, List.set_cons_succ]
              first
                | (refine wpAnyH_take (i := 9) (oi := ⟨some 35, _, _, _, _, _⟩) (v := ?vq293x9) rfl (by kernel_rfl) (by kernel_rfl) (by kernel_rfl) (fun _ _ _ h => h) (Or.inl ⟨by rfl, ?hyq293x9⟩) hHeld ?rrq293x9
                   case hyq293x9 => (intro w hSw; obtain ⟨c0, c1, c2, c3⟩ := rr_first hSw; clear hSw; go_simp; try with_reducible rfl))
                | (refine wpAnyH_take (i := 9) (oi := ⟨some 35, _, _, _, _, _⟩) (v := undef) rfl (by kernel_rfl) (by kernel_rfl) (by kernel_rfl) (fun _ _ _ h => h) (Or.inr ⟨by rfl, rfl⟩) hHeld ?rrq293x9)
              try simp only [Act.put, List.setIfInBounds_toArray, List.set_cons_zero, List.set_cons_succ]
              first
                | (refine wpAnyH_take (i := 10) (oi := ⟨some 36, _, _, _, _, _⟩) (v := ?vq293x10) rfl (by kernel_rfl) (by kernel_rfl) (by kernel_rfl) (fun _ _ _ h => h) (Or.inl ⟨by rfl, ?hyq293x10⟩) hHeld ?rrq293x10
                   case hyq293x10 => (intro w hSw; obtain ⟨c0, c1, c2, c3⟩ := rr_first hSw; clear hSw; go_simp; try with_reducible rfl))
                | (refine wpAnyH_take (i := 10) (oi := ⟨some 36, _, _, _, _, _⟩) (v := undef) rfl (by kernel_rfl) (by kernel_rfl) (by kernel_rfl) (fun _ _ _ h => h) (Or.inr ⟨by rfl, rfl⟩) hHeld ?rrq293x10)
              try simp only [Act.put, List.setIfInBounds_toArray, List.set_cons_zero, List.set_cons_succ]
              refine wpAnyH_ready (rs := [11, 14]) (by kernel_rfl) (by simp) ?_
              refine (AllReadyH.cons (o := ⟨some 37, _, _, _, _, _⟩) rfl (fun K hK => ?evq293x11) (AllReadyH.cons (o := ⟨some 40, _, _, _, _, _⟩) rfl (fun K hK => ?evq293x14) AllReadyH.nil))
              case evq293x11 =>
                go_simp
                refine hK.out _ _ (blk_alloc hHeld _) (fun hHeld2 => ?_)
                clear hK K hHeld
                have hHeld := hHeld2
                clear hHeld2
                try simp only [Act.put, List.setIfInBounds_toArray, List.set_cons_zero, List.set_cons_succ]
                have hlit := HLJ.out Wd1
                have hSt := Lib.hid (hSt.out.below (below_alloc Wd1 oLit8))
                obtain ⟨L, hL⟩ : ∃ L, Wd1.heap.size = L := ⟨_, rfl⟩
                obtain ⟨Wd2, hWn⟩ : ∃ Wn, Wd1.alloc oLit8 = Wn := ⟨_, rfl⟩
                rw [hWn] at hlit hSt hHeld ⊢
                rw [hL] at hlit ⊢
                clear hL hWn
                refine wpAnyH_ready (rs := [14]) (by kernel_rfl) (by simp) ?_
                refine (AllReadyH.cons (o := ⟨some 40, _, _, _, _, _⟩) rfl (fun K hK => ?evq294x14) AllReadyH.nil)
                case evq294x14 =>
                  go_simp
                  (go_at_call 11; refine (P3.out _).mono ?_; rintro e9 w9 ⟨rfl, rfl⟩)
                  refine hK.out _ _ (hHeld) (fun hHeld2 => ?_)
                  clear hK K hHeld
                  have hHeld := hHeld2
                  clear hHeld2
                  try simp only [Act.put, List.setIfInBounds_toArray, List.set_cons_zero, List.set_cons_succ]
                  first
                    | (refine wpAnyH_take (i := 15) (oi := ⟨some 41, _, _, _, _, _⟩) (v := ?vq295x15) rfl (by kernel_rfl) (by kernel_rfl) (by kernel_rfl) (fun _ _ _ h => h) (Or.inl ⟨by rfl, ?hyq295x15⟩) hHeld ?rrq295x15
                       case hyq295x15 => (intro w hSw; obtain ⟨c0, c1, c2, c3⟩ := rr_first hSw; clear hSw; go_simp; try with_reducible rfl))
                    | (refine wpAnyH_take (i := 15) (oi := ⟨some 41, _, _, _, _, _⟩) (v := undef) rfl (by kernel_rfl) (by kernel_rfl) (by kernel_rfl) (fun _ _ _ h => h) (Or.inr ⟨by rfl, rfl⟩) hHeld ?rrq295x15)
                  try simp only [Act.put, List.setIfInBounds_toArray, List.set_cons_zero, List.set_cons_succ]
                  refine wpAnyH_ready (rs := [16]) (by kernel_rfl) (by simp) ?_
                  refine (AllReadyH.cons (o := ⟨some 42, _, _, _, _, _⟩) rfl (fun K hK => ?evq295x16) AllReadyH.nil)
                  case evq295x16 =>
                    go_simp
                    refine hK.out _ _ (hHeld) (fun hHeld2 => ?_)
                    clear hK K hHeld
                    have hHeld := hHeld2
                    clear hHeld2
                    try simp only [Act.put, List.setIfInBounds_toArray, List.set_cons_zero, List.set_cons_succ]
                    clear hlit
                    refine wpAnyH_ready (rs := [17]) (by kernel_rfl) (by simp) ?_
                    refine (AllReadyH.cons (o := ⟨some 43, _, _, _, _, _⟩) rfl (fun K hK => ?evq296x17) AllReadyH.nil)
                    case evq296x17 =>
                      go_simp
                      (go_at_call 23; refine (HN.out _).mono ?_; rintro e9 Wd3 ⟨rfl, hb9⟩)
                      refine hK.out _ _ (blk_below hHeld hb9 (blk_lt hHeld)) (fun hHeld2 => ?_)
                      clear hK K hHeld
                      have hHeld := hHeld2
                      clear hHeld2
                      try simp only [Act.put, List.setIfInBounds_toArray, List.set_cons_zero, List.set_cons_succ]
                      have hSt := Lib.hid (hSt.out.below hb9)
                      clear hb9
                      refine wpAnyH_ready (rs := [22]) (by kernel_rfl) (by simp) ?_
                      refine (AllReadyH.cons (o := ⟨some 48, _, _, _, _, _⟩) rfl (fun K hK => ?evq297x22) AllReadyH.nil)
                      case evq297x22 =>
                        go_simp
                        (go_at_call 11; refine (P4.out _).mono ?_; rintro e9 w9 ⟨rfl, rfl⟩)
                        refine hK.out _ _ (hHeld) (fun hHeld2 => ?_)
                        clear hK K hHeld
                        have hHeld := hHeld2
                        clear hHeld2
                        try simp only [Act.put, List.setIfInBounds_toArray, List.set_cons_zero, List.set_cons_succ]
                        first
                          | (refine wpAnyH_take (i := 23) (oi := ⟨some 49, _, _, _, _, _⟩) (v := ?vq298x23) rfl (by kernel_rfl) (by kernel_rfl) (by kernel_rfl) (fun _ _ _ h => h) (Or.inl ⟨by rfl, ?hyq298x23⟩) hHeld ?rrq298x23
                             case hyq298x23 => (intro w hSw; obtain ⟨c0, c1, c2, c3⟩ := rr_first hSw; clear hSw; go_simp; try with_reducible rfl))
                          | (refine wpAnyH_take (i := 23) (oi := ⟨some 49, _, _, _, _, _⟩) (v := undef) rfl (by kernel_rfl) (by kernel_rfl) (by kernel_rfl) (fun _ _ _ h => h) (Or.inr ⟨by rfl, rfl⟩) hHeld ?rrq298x23)
                        try simp only [Act.put, List.setIfInBounds_toArray, List.set_cons_zero, List.set_cons_succ]
                        refine wpAnyH_ready (rs := [25]) (by kernel_rfl) (by simp) ?_
                        refine (AllReadyH.cons (o := ⟨none, _, _, _, _, _⟩) rfl (fun K hK => ?evq298x25) AllReadyH.nil)
                        case evq298x25 =>
                          obtain ⟨s0, s1, s2, s3, t0, t1, t2, t3⟩ := rz_cells hSt.out
                          have hSt5 := hSt.out.put ⟨netZ P NB, NB, 0, (fi : Int)⟩
                          go_simp
                          refine hK.out _ _ (hSt5.st.x) (fun hHeld2 => ?_)
                          clear hK K hHeld
                          have hHeld := hHeld2
                          clear hHeld2
                          try simp only [Act.put, List.setIfInBounds_toArray, List.set_cons_zero, List.set_cons_succ]
                          refine wpAnyH_done (by kernel_rfl) ?_ _
                          refine NoPanic.normal ?_
                          go_wp2_with fail
                          go_meet
                          exact ⟨Z, rfl, Lib.hid hSt5⟩
              case evq293x14 =>
                go_simp
                (go_at_call 11; refine (P3.out _).mono ?_; rintro e9 w9 ⟨rfl, rfl⟩)
                refine hK.out _ _ (hHeld) (fun hHeld2 => ?_)
                clear hK K hHeld
                have hHeld := hHeld2
                clear hHeld2
                try simp only [Act.put, List.setIfInBounds_toArray, List.set_cons_zero, List.set_cons_succ]
                refine wpAnyH_ready (rs := [11]) (by kernel_rfl) (by simp) ?_
                refine (AllReadyH.cons (o := ⟨some 37, _, _, _, _, _⟩) rfl (fun K hK => ?evq300x11) AllReadyH.nil)
                case evq300x11 =>
                  go_simp
                  refine hK.out _ _ (blk_alloc hHeld _) (fun hHeld2 => ?_)
                  clear hK K hHeld
                  have hHeld := hHeld2
                  clear hHeld2
                  try simp only [Act.put, List.setIfInBounds_toArray, List.set_cons_zero, List.set_cons_succ]
                  have hlit := HLJ.out Wd1
                  have hSt := Lib.hid (hSt.out.below (below_alloc Wd1 oLit8))
                  obtain ⟨L, hL⟩ : ∃ L, Wd1.heap.size = L := ⟨_, rfl⟩
                  obtain ⟨Wd2, hWn⟩ : ∃ Wn, Wd1.alloc oLit8 = Wn := ⟨_, rfl⟩
                  rw [hWn] at hlit hSt hHeld ⊢
                  rw [hL] at hlit ⊢
                  clear hL hWn
                  first
                    | (refine wpAnyH_take (i := 15) (oi := ⟨some 41, _, _, _, _, _⟩) (v := ?vq301x15) rfl (by kernel_rfl) (by kernel_rfl) (by kernel_rfl) (fun _ _ _ h => h) (Or.inl ⟨by rfl, ?hyq301x15⟩) hHeld ?rrq301x15
                       case hyq301x15 => (intro w hSw; obtain ⟨c0, c1, c2, c3⟩ := rr_first hSw; clear hSw; go_simp; try with_reducible rfl))
                    | (refine wpAnyH_take (i := 15) (oi := ⟨some 41, _, _, _, _, _⟩) (v := undef) rfl (by kernel_rfl) (by kernel_rfl) (by kernel_rfl) (fun _ _ _ h => h) (Or.inr ⟨by rfl, rfl⟩) hHeld ?rrq301x15)
                  try simp only [Act.put, List.setIfInBounds_toArray, List.set_cons_zero, List.set_cons_succ]
                  refine wpAnyH_ready (rs := [16]) (by kernel_rfl) (by simp) ?_
                  refine (AllReadyH.cons (o := ⟨some 42, _, _, _, _, _⟩) rfl (fun K hK => ?evq301x16) AllReadyH.nil)
                  case evq301x16 =>
                    go_simp
                    refine hK.out _ _ (hHeld) (fun hHeld2 => ?_)
                    clear hK K hHeld
                    have hHeld := hHeld2
                    clear hHeld2
                    try simp only [Act.put, List.setIfInBounds_toArray, List.set_cons_zero, List.set_cons_succ]
                    clear hlit
                    refine wpAnyH_ready (rs := [17]) (by kernel_rfl) (by simp) ?_
                    refine (AllReadyH.cons (o := ⟨some 43, _, _, _, _, _⟩) rfl (fun K hK => ?evq302x17) AllReadyH.nil)
                    case evq302x17 =>
                      go_simp
                      (go_at_call 23; refine (HN.out _).mono ?_; rintro e9 Wd3 ⟨rfl, hb9⟩)
                      refine hK.out _ _ (blk_below hHeld hb9 (blk_lt hHeld)) (fun hHeld2 => ?_)
                      clear hK K hHeld
                      have hHeld := hHeld2
                      clear hHeld2
                      try simp only [Act.put, List.setIfInBounds_toArray, List.set_cons_zero, List.set_cons_succ]
                      have hSt := Lib.hid (hSt.out.below hb9)
                      clear hb9
                      refine wpAnyH_ready (rs := [22]) (by kernel_rfl) (by simp) ?_
                      refine (AllReadyH.cons (o := ⟨some 48, _, _, _, _, _⟩) rfl (fun K hK => ?evq303x22) AllReadyH.nil)
                      case evq303x22 =>
                        go_simp
                        (go_at_call 11; refine (P4.out _).mono ?_; rintro e9 w9 ⟨rfl, rfl⟩)
                        refine hK.out _ _ (hHeld) (fun hHeld2 => ?_)
                        clear hK K hHeld
                        have hHeld := hHeld2
                        clear hHeld2
                        try simp only [Act.put, List.setIfInBounds_toArray, List.set_cons_zero, List.set_cons_succ]
                        first
                          | (refine wpAnyH_take (i := 23) (oi := ⟨some 49, _, _, _, _, _⟩) (v := ?vq304x23) rfl (by kernel_rfl) (by kernel_rfl) (by kernel_rfl) (fun _ _ _ h => h) (Or.inl ⟨by rfl, ?hyq304x23⟩) hHeld ?rrq304x23
                             case hyq304x23 => (intro w hSw; obtain ⟨c0, c1, c2, c3⟩ := rr_first hSw; clear hSw; go_simp; try with_reducible rfl))
                          | (refine wpAnyH_take (i := 23) (oi := ⟨some 49, _, _, _, _, _⟩) (v := undef) rfl (by kernel_rfl) (by kernel_rfl) (by kernel_rfl) (fun _ _ _ h => h) (Or.inr ⟨by rfl, rfl⟩) hHeld ?rrq304x23)
                        try simp only [Act.put, List.setIfInBounds_toArray, List.set_cons_zero, List.set_cons_succ]
                        refine wpAnyH_ready (rs := [25]) (by kernel_rfl) (by simp) ?_
                        refine (AllReadyH.cons (o := ⟨none, _, _, _, _, _⟩) rfl (fun K hK => ?evq304x25) AllReadyH.nil)
                        case evq304x25 =>
                          obtain ⟨s0, s1, s2, s3, t0, t1, t2, t3⟩ := rz_cells hSt.out
                          have hSt5 := hSt.out.put ⟨netZ P NB, NB, 0, (fi : Int)⟩
                          go_simp
                          refine hK.out _ _ (hSt5.st.x) (fun hHeld2 => ?_)
                          clear hK K hHeld
                          have hHeld := hHeld2
                          clear hHeld2
                          try simp only [Act.put, List.setIfInBounds_toArray, List.set_cons_zero, List.set_cons_succ]
                          refine wpAnyH_done (by kernel_rfl) ?_ _
                          refine NoPanic.normal ?_
                          go_wp2_with fail
                          go_meet
                          exact ⟨Z, rfl, Lib.hid hSt5⟩
            case evq292x11 =>
              go_simp
              refine hK.out _ _ (blk_alloc hHeld _) (fun hHeld2 => ?_)
              clear hK K hHeld
              have hHeld := hHeld2
              clear hHeld2
              try simp only [Act.put, List.setIfInBounds_toArray, List.set_cons_zero, List.set_cons_succ]
              have hlit := HLJ.out Wd1
              have hSt := Lib.hid (hSt.out.below (below_alloc Wd1 oLit8))
              obtain ⟨L, hL⟩ : ∃ L, Wd1.heap.size = L := ⟨_, rfl⟩
              obtain ⟨Wd2, hWn⟩ : ∃ Wn, Wd1.alloc oLit8 = Wn := ⟨_, rfl⟩
              rw [hWn] at hlit hSt hHeld ⊢
              rw [hL] at hlit ⊢
              clear hL hWn
              refine wpAnyH_ready (rs := [8]) (by kernel_rfl) (by simp) ?_
              refine (AllReadyH.cons (o := ⟨some 34, _, _, _, _, _⟩) rfl (fun K hK => ?evq306x8) AllReadyH.nil)
              case evq306x8 =>
                go_simp
                (go_at_call 11; refine (P2.out _).mono ?_; rintro e9 w9 ⟨rfl, rfl⟩)
                refine hK.out _ _ (hHeld) (fun hHeld2 => ?_)
                clear hK K hHeld
                have hHeld := hHeld2
                clear hHeld2
                try simp only [Act.put, List.setIfInBounds_toArray, List.set_cons_zero, List.set_cons_succ]
                first
                  | (refine wpAnyH_take (i := 9) (oi := ⟨some 35, _, _, _, _, _⟩) (v := ?vq307x9) rfl (by kernel_rfl) (by kernel_rfl) (by kernel_rfl) (fun _ _ _ h => h) (Or.inl ⟨by rfl, ?hyq307x9⟩) hHeld ?rrq307x9
                     case hyq307x9 => (intro w hSw; obtain ⟨c0, c1, c2, c3⟩ := rr_first hSw; clear hSw; go_simp; try with_reducible rfl))
                  | (refine wpAnyH_take (i := 9) (oi := ⟨some 35, _, _, _, _, _⟩) (v := undef) rfl (by kernel_rfl) (by kernel_rfl) (by kernel_rfl) (fun _ _ _ h => h) (Or.inr ⟨by rfl, rfl⟩) hHeld ?rrq307x9)
                try simp only [Act.put, List.setIfInBounds_toArray, List.set_cons_zero, List.set_cons_succ]
                first
                  | (refine wpAnyH_take (i := 10) (oi := ⟨some 36, _, _, _, _, _⟩) (v := ?vq307x10) rfl (by kernel_rfl) (by kernel_rfl) (by kernel_rfl) (fun _ _ _ h => h) (Or.inl ⟨by rfl, ?hyq307x10⟩) hHeld ?rrq307x10
                     case hyq307x10 => (intro w hSw; obtain ⟨c0, c1, c2, c3⟩ := rr_first hSw; clear hSw; go_simp; try with_reducible rfl))
                  | (refine wpAnyH_take (i := 10) (oi := ⟨some 36, _, _, _, _, _⟩) (v := undef) rfl (by kernel_rfl) (by kernel_rfl) (by kernel_rfl) (fun _ _ _ h => h) (Or.inr ⟨by rfl, rfl⟩) hHeld ?rrq307x10)
                try simp only [Act.put, List.setIfInBounds_toArray, List.set_cons_zero, List.set_cons_succ]
                refine wpAnyH_ready (rs := [14]) (by kernel_rfl) (by simp) ?_
                refine (AllReadyH.cons (o := ⟨some 40, _, _, _, _, _⟩) rfl (fun K hK => ?evq307x14) AllReadyH.nil)
                case evq307x14 =>
                  go_simp
                  (go_at_call 11; refine (P3.out _).mono ?_; rintro e9 w9 ⟨rfl, rfl⟩)
                  refine hK.out _ _ (hHeld) (fun hHeld2 => ?_)
                  clear hK K hHeld
                  have hHeld := hHeld2
                  clear hHeld2
                  try simp only [Act.put, List.setIfInBounds_toArray, List.set_cons_zero, List.set_cons_succ]
                  first
                    | (refine wpAnyH_take (i := 15) (oi := ⟨some 41, _, _, _, _, _⟩) (v := ?vq308x15) rfl (by kernel_rfl) (by kernel_rfl) (by kernel_rfl) (fun _ _ _ h => h) (Or.inl ⟨by rfl, ?hyq308x15⟩) hHeld ?rrq308x15
                       case hyq308x15 => (intro w hSw; obtain ⟨c0, c1, c2, c3⟩ := rr_first hSw; clear hSw; go_simp; try with_reducible rfl))
                    | (refine wpAnyH_take (i := 15) (oi := ⟨some 41, _, _, _, _, _⟩) (v := undef) rfl (by kernel_rfl) (by kernel_rfl) (by kernel_rfl) (fun _ _ _ h => h) (Or.inr ⟨by rfl, rfl⟩) hHeld ?rrq308x15)
                  try simp only [Act.put, List.setIfInBounds_toArray, List.set_cons_zero, List.set_cons_succ]
                  refine wpAnyH_ready (rs := [16]) (by kernel_rfl) (by simp) ?_
                  refine (AllReadyH.cons (o := ⟨some 42, _, _, _, _, _⟩) rfl (fun K hK => ?evq308x16) AllReadyH.nil)
                  case evq308x16 =>
                    go_simp
                    refine hK.out _ _ (hHeld) (fun hHeld2 => ?_)
                    clear hK K hHeld
                    have hHeld := hHeld2
                    clear hHeld2
                    try simp only [Act.put, List.setIfInBounds_toArray, List.set_cons_zero, List.set_cons_succ]
                    clear hlit
                    refine wpAnyH_ready (rs := [17]) (by kernel_rfl) (by simp) ?_
                    refine (AllReadyH.cons (o := ⟨some 43, _, _, _, _, _⟩) rfl (fun K hK => ?evq309x17) AllReadyH.nil)
                    case evq309x17 =>
                      go_simp
                      (go_at_call 23; refine (HN.out _).mono ?_; rintro e9 Wd3 ⟨rfl, hb9⟩)
                      refine hK.out _ _ (blk_below hHeld hb9 (blk_lt hHeld)) (fun hHeld2 => ?_)
                      clear hK K hHeld
                      have hHeld := hHeld2
                      clear hHeld2
                      try simp only [Act.put, List.setIfInBounds_toArray, List.set_cons_zero, List.set_cons_succ]
                      have hSt := Lib.hid (hSt.out.below hb9)
                      clear hb9
                      refine wpAnyH_ready (rs := [22]) (by kernel_rfl) (by simp) ?_
                      refine (AllReadyH.cons (o := ⟨some 48, _, _, _, _, _⟩) rfl (fun K hK => ?evq310x22) AllReadyH.nil)
                      case evq310x22 =>
                        go_simp
                        (go_at_call 11; refine (P4.out _).mono ?_; rintro e9 w9 ⟨rfl, rfl⟩)
                        refine hK.out _ _ (hHeld) (fun hHeld2 => ?_)
                        clear hK K hHeld
                        have hHeld := hHeld2
                        clear hHeld2
                        try simp only [Act.put, List.setIfInBounds_toArray, List.set_cons_zero, List.set_cons_succ]
                        first
                          | (refine wpAnyH_take (i := 23) (oi := ⟨some 49, _, _, _, _, _⟩) (v := ?vq311x23) rfl (by kernel_rfl) (by kernel_rfl) (by kernel_rfl) (fun _ _ _ h => h) (Or.inl ⟨by rfl, ?hyq311x23⟩) hHeld ?rrq311x23
                             case hyq311x23 => (intro w hSw; obtain ⟨c0, c1, c2, c3⟩ := rr_first hSw; clear hSw; go_simp; try with_reducible rfl))
                          | (refine wpAnyH_take (i := 23) (oi := ⟨some 49, _, _, _, _, _⟩) (v := undef) rfl (by kernel_rfl) (by kernel_rfl) (by kernel_rfl) (fun _ _ _ h => h) (Or.inr ⟨by rfl, rfl⟩) hHeld ?rrq311x23)
                        try simp only [Act.put, List.setIfInBounds_toArray, List.set_cons_zero, List.set_cons_succ]
                        refine wpAnyH_ready (rs := [25]) (by kernel_rfl) (by simp) ?_
                        refine (AllReadyH.cons (o := ⟨none, _, _, _, _, _⟩) rfl (fun K hK => ?evq311x25) AllReadyH.nil)
                        case evq311x25 =>
                          obtain ⟨s0, s1, s2, s3, t0, t1, t2, t3⟩ := rz_cells hSt.out
                          have hSt5 := hSt.out.put ⟨netZ P NB, NB, 0, (fi : Int)⟩
                          go_simp
                          refine hK.out _ _ (hSt5.st.x) (fun hHeld2 => ?_)
                          clear hK K hHeld
                          have hHeld := hHeld2
                          clear hHeld2
                          try simp only [Act.put, List.setIfInBounds_toArray, List.set_cons_zero, List.set_cons_succ]
                          refine wpAnyH_done (by kernel_rfl) ?_ _
                          refine NoPanic.normal ?_
                          go_wp2_with fail
                          go_meet
                          exact ⟨Z, rfl, Lib.hid hSt5⟩
        case evq193x11 =>
          go_simp
          refine hK.out _ _ (blk_alloc hHeld _) (fun hHeld2 => ?_)
          clear hK K hHeld
          have hHeld := hHeld2
          clear hHeld2
          try simp only [Act.put, List.setIfInBounds_toArray, List.set_cons_zero, List.set_cons_succ]
          have hlit := HLJ.out Wd
          have hSt := Lib.hid (hSt.out.below (below_alloc Wd oLit8))
          obtain ⟨L, hL⟩ : ∃ L, Wd.heap.size = L := ⟨_, rfl⟩
          obtain ⟨Wd1, hWn⟩ : ∃ Wn, Wd.alloc oLit8 = Wn := ⟨_, rfl⟩
          rw [hWn] at hlit hSt hHeld ⊢
          rw [hL] at hlit ⊢
          clear hL hWn
          refine wpAnyH_ready (rs := [3, 24]) (by kernel_rfl) (by simp) ?_
          refine (AllReadyH.cons (o := ⟨some 29, _, _, _, _, _⟩) rfl (fun K hK => ?evq313x3) (AllReadyH.cons (o := ⟨some 8, _, _, _, _, _⟩) rfl (fun K hK => ?evq313x24) AllReadyH.nil))
          case evq313x3 =>
            go_simp
            (go_at_call 11; refine (P1.out _).mono ?_; rintro e9 w9 ⟨rfl, rfl⟩)
            refine hK.out _ _ (hHeld) (fun hHeld2 => ?_)
            clear hK K hHeld
            have hHeld := hHeld2
            clear hHeld2
            try simp only [Act.put, List.setIfInBounds_toArray, List.set_cons_zero, List.set_cons_succ]
            first
              | (refine wpAnyH_take (i := 4) (oi := ⟨some 30, _, _, _, _, _⟩) (v := ?vq314x4) rfl (by kernel_rfl) (by kernel_rfl) (by kernel_rfl) (fun _ _ _ h => h) (Or.inl ⟨by rfl, ?hyq314x4⟩) hHeld ?rrq314x4
                 case hyq314x4 => (intro w hSw; obtain ⟨c0, c1, c2, c3⟩ := rr_first hSw; clear hSw; go_simp; try with_reducible rfl))
              | (refine wpAnyH_take (i := 4) (oi := ⟨some 30, _, _, _, _, _⟩) (v := undef) rfl (by kernel_rfl) (by kernel_rfl) (by kernel_rfl) (fun _ _ _ h => h) (Or.inr ⟨by rfl, rfl⟩) hHeld ?rrq314x4)
            try simp only [Act.put, List.setIfInBounds_toArray, List.set_cons_zero, List.set_cons_succ]
            first
              | (refine wpAnyH_take (i := 5) (oi := ⟨some 31, _, _, _, _, _⟩) (v := ?vq314x5) rfl (by kernel_rfl) (by kernel_rfl) (by kernel_rfl) (fun _ _ _ h => h) (Or.inl ⟨by rfl, ?hyq314x5⟩) hHeld ?rrq314x5
                 case hyq314x5 => (intro w hSw; obtain ⟨c0, c1, c2, c3⟩ := rr_first hSw; clear hSw; go_simp; try with_reducible rfl))
              | (refine wpAnyH_take (i := 5) (oi := ⟨some 31, _, _, _, _, _⟩) (v := undef) rfl (by kernel_rfl) (by kernel_rfl) (by kernel_rfl) (fun _ _ _ h => h) (Or.inr ⟨by rfl, rfl⟩) hHeld ?rrq314x5)
            try simp only [Act.put, List.setIfInBounds_toArray, List.set_cons_zero, List.set_cons_succ]
            refine wpAnyH_ready (rs := [8, 24]) (by kernel_rfl) (by simp) ?_
            refine (AllReadyH.cons (o := ⟨some 34, _, _, _, _, _⟩) rfl (fun K hK => ?evq314x8) (AllReadyH.cons (o := ⟨some 8, _, _, _, _, _⟩) rfl (fun K hK => ?evq314x24) AllReadyH.nil))
            case evq314x8 =>
              go_simp
              (go_at_call 11; refine (P2.out _).mono ?_; rintro e9 w9 ⟨rfl, rfl⟩)
              refine hK.out _ _ (hHeld) (fun hHeld2 => ?_)
              clear hK K hHeld
              have hHeld := hHeld2
              clear hHeld2
              try simp only [Act.put, List.setIfInBounds_toArray, List.set_cons_zero, List.set_cons_succ]
              first
                | (refine wpAnyH_take (i := 9) (oi := ⟨some 35, _, _, _, _, _⟩) (v := ?vq315x9) rfl (by kernel_rfl) (by kernel_rfl) (by kernel_rfl) (fun _ _ _ h => h) (Or.inl ⟨by rfl, ?hyq315x9⟩) hHeld ?rrq315x9
                   case hyq315x9 => (intro w hSw; obtain ⟨c0, c1, c2, c3⟩ := rr_first hSw; clear hSw; go_simp; try with_reducible rfl))
                | (refine wpAnyH_take (i := 9) (oi := ⟨some 35, _, _, _, _, _⟩) (v := undef) rfl (by kernel_rfl) (by kernel_rfl) (by kernel_rfl) (fun _ _ _ h => h) (Or.inr ⟨by rfl, rfl⟩) hHeld ?rrq315x9)
              try simp only [Act.put, List.setIfInBounds_toArray, List.set_cons_zero, List.set_cons_succ]
              first
                | (refine wpAnyH_take (i := 10) (oi := ⟨some 36, _, _, _, _, _⟩) (v := ?vq315x10) rfl (by kernel_rfl) (by kernel_rfl) (by kernel_rfl) (fun _ _ _ h => h) (Or.inl ⟨by rfl, ?hyq315x10⟩) hHeld ?rrq315x10
                   case hyq315x10 => (intro w hSw; obtain ⟨c0, c1, c2, c3⟩ := rr_first hSw; clear hSw; go_simp; try with_reducible rfl))
                | (refine wpAnyH_take (i := 10) (oi := ⟨some 36, _, _, _, _, _⟩) (v := undef) rfl (by kernel_rfl) (by kernel_rfl) (by kernel_rfl) (fun _ _ _ h => h) (Or.inr ⟨by rfl, rfl⟩) hHeld ?rrq315x10)
              try simp only [Act.put, List.setIfInBounds_toArray, List.set_cons_zero, List.set_cons_succ]
              refine wpAnyH_ready (rs := [14, 24]) (by kernel_rfl) (by simp) ?_
              refine (AllReadyH.cons (o := ⟨some 40, _, _, _, _, _⟩) rfl (fun K hK => ?evq315x14) (AllReadyH.cons (o := ⟨some 8, _, _, _, _, _⟩) rfl (fun K hK => ?evq315x24) AllReadyH.nil))
              case evq315x14 =>
                go_simp
                (go_at_call 11; refine (P3.out _).mono ?_; rintro e9 w9 ⟨rfl, rfl⟩)
                refine hK.out _ _ (hHeld) (fun hHeld2 => ?_)
                clear hK K hHeld
                have hHeld := hHeld2
                clear hHeld2
                try simp only [Act.put, List.setIfInBounds_toArray, List.set_cons_zero, List.set_cons_succ]
                first
                  | (refine wpAnyH_take (i := 15) (oi := ⟨some 41, _, _, _, _, _⟩) (v := ?vq316x15) rfl (by kernel_rfl) (by kernel_rfl) (by kernel_rfl) (fun _ _ _ h => h) (Or.inl ⟨by rfl, ?hyq316x15⟩) hHeld ?rrq316x15
                     case hyq316x15 => (intro w hSw; obtain ⟨c0, c1, c2, c3⟩ := rr_first hSw; clear hSw; go_simp; try with_reducible rfl))
                  | (refine wpAnyH_take (i := 15) (oi := ⟨some 41, _, _, _, _, _⟩) (v := undef) rfl (by kernel_rfl) (by kernel_rfl) (by kernel_rfl) (fun _ _ _ h => h) (Or.inr ⟨by rfl, rfl⟩) hHeld ?rrq316x15)
                try simp only [Act.put, List.setIfInBounds_toArray, List.set_cons_zero, List.set_cons_succ]
                refine wpAnyH_ready (rs := [16, 24]) (by kernel_rfl) (by simp) ?_
                refine (AllReadyH.cons (o := ⟨some 42, _, _, _, _, _⟩) rfl (fun K hK => ?evq316x16) (AllReadyH.cons (o := ⟨some 8, _, _, _, _, _⟩) rfl (fun K hK => ?evq316x24) AllReadyH.nil))
                case evq316x16 =>
                  go_simp
                  refine hK.out _ _ (hHeld) (fun hHeld2 => ?_)
                  clear hK K hHeld
                  have hHeld := hHeld2
                  clear hHeld2
                  try simp only [Act.put, List.setIfInBounds_toArray, List.set_cons_zero, List.set_cons_succ]
                  clear hlit
                  refine wpAnyH_ready (rs := [17, 24]) (by kernel_rfl) (by simp) ?_
                  refine (AllReadyH.cons (o := ⟨some 43, _, _, _, _, _⟩) rfl (fun K hK => ?evq317x17) (AllReadyH.cons (o := ⟨some 8, _, _, _, _, _⟩) rfl (fun K hK => ?evq317x24) AllReadyH.nil))
                  case evq317x17 =>
                    go_simp
                    (go_at_call 23; refine (HN.out _).mono ?_; rintro e9 Wd2 ⟨rfl, hb9⟩)
                    refine hK.out _ _ (blk_below hHeld hb9 (blk_lt hHeld)) (fun hHeld2 => ?_)
                    clear hK K hHeld
                    have hHeld := hHeld2
                    clear hHeld2
                    try simp only [Act.put, List.setIfInBounds_toArray, List.set_cons_zero, List.set_cons_succ]
                    have hSt := Lib.hid (hSt.out.below hb9)
                    clear hb9
                    refine wpAnyH_ready (rs := [22, 24]) (by kernel_rfl) (by simp) ?_
                    refine (AllReadyH.cons (o := ⟨some 48, _, _, _, _, _⟩) rfl (fun K hK => ?evq318x22) (AllReadyH.cons (o := ⟨some 8, _, _, _, _, _⟩) rfl (fun K hK => ?evq318x24) AllReadyH.nil))
                    case evq318x22 =>
                      go_simp
                      (go_at_call 11; refine (P4.out _).mono ?_; rintro e9 w9 ⟨rfl, rfl⟩)
                      refine hK.out _ _ (hHeld) (fun hHeld2 => ?_)
                      clear hK K hHeld
                      have hHeld := hHeld2
                      clear hHeld2
                      try simp only [Act.put, List.setIfInBounds_toArray, List.set_cons_zero, List.set_cons_succ]
                      first
                        | (refine wpAnyH_take (i := 23) (oi := ⟨some 49, _, _, _, _, _⟩) (v := ?vq319x23) rfl (by kernel_rfl) (by kernel_rfl) (by kernel_rfl) (fun _ _ _ h => h) (Or.inl ⟨by rfl, ?hyq319x23⟩) hHeld ?rrq319x23
                           case hyq319x23 => (intro w hSw; obtain ⟨c0, c1, c2, c3⟩ := rr_first hSw; clear hSw; go_simp; try with_reducible rfl))
                        | (refine wpAnyH_take (i := 23) (oi := ⟨some 49, _, _, _, _, _⟩) (v := undef) rfl (by kernel_rfl) (by kernel_rfl) (by kernel_rfl) (fun _ _ _ h => h) (Or.inr ⟨by rfl, rfl⟩) hHeld ?rrq319x23)
                      try simp only [Act.put, List.setIfInBounds_toArray, List.set_cons_zero, List.set_cons_succ]
                      refine wpAnyH_ready (rs := [24]) (by kernel_rfl) (by simp) ?_
                      refine (AllReadyH.cons (o := ⟨some 8, _, _, _, _, _⟩) rfl (fun K hK => ?evq319x24) AllReadyH.nil)
                      case evq319x24 =>
                        go_simp
                        refine hK.out _ _ (blk_alloc hHeld _) (fun hHeld2 => ?_)
                        clear hK K hHeld
                        have hHeld := hHeld2
                        clear hHeld2
                        try simp only [Act.put, List.setIfInBounds_toArray, List.set_cons_zero, List.set_cons_succ]
                        have hSt := Lib.hid (RzSt.made hSt.out)
                        obtain ⟨Z, hZ⟩ : ∃ Z, Wd2.heap.size = Z := ⟨_, rfl⟩
                        obtain ⟨Wd3, hWn⟩ : ∃ Wn, Wd2.alloc (ro rz) = Wn := ⟨_, rfl⟩
                        rw [show Wd2.alloc (.cells #[.int .i64 0, .int .i64 0, .int .i64 0, .int .i64 0] 29) = Wd3 from hWn] at hHeld ⊢
                        rw [hWn] at hSt
                        rw [hZ] at hSt ⊢
                        clear hZ hWn
                        refine wpAnyH_ready (rs := [25]) (by kernel_rfl) (by simp) ?_
                        refine (AllReadyH.cons (o := ⟨none, _, _, _, _, _⟩) rfl (fun K hK => ?evq320x25) AllReadyH.nil)
                        case evq320x25 =>
                          obtain ⟨s0, s1, s2, s3, t0, t1, t2, t3⟩ := rz_cells hSt.out
                          have hSt5 := hSt.out.put ⟨netZ P NB, NB, 0, (fi : Int)⟩
                          go_simp
                          refine hK.out _ _ (hSt5.st.x) (fun hHeld2 => ?_)
                          clear hK K hHeld
                          have hHeld := hHeld2
                          clear hHeld2
                          try simp only [Act.put, List.setIfInBounds_toArray, List.set_cons_zero, List.set_cons_succ]
                          refine wpAnyH_done (by kernel_rfl) ?_ _
                          refine NoPanic.normal ?_
                          go_wp2_with fail
                          go_meet
                          exact ⟨Z, rfl, Lib.hid hSt5⟩
                    case evq318x24 =>
                      go_simp
                      refine hK.out _ _ (blk_alloc hHeld _) (fun hHeld2 => ?_)
                      clear hK K hHeld
                      have hHeld := hHeld2
                      clear hHeld2
                      try simp only [Act.put, List.setIfInBounds_toArray, List.set_cons_zero, List.set_cons_succ]
                      have hSt := Lib.hid (RzSt.made hSt.out)
                      obtain ⟨Z, hZ⟩ : ∃ Z, Wd2.heap.size = Z := ⟨_, rfl⟩
                      obtain ⟨Wd3, hWn⟩ : ∃ Wn, Wd2.alloc (ro rz) = Wn := ⟨_, rfl⟩
                      rw [show Wd2.alloc (.cells #[.int .i64 0, .int .i64 0, .int .i64 0, .int .i64 0] 29) = Wd3 from hWn] at hHeld ⊢
                      rw [hWn] at hSt
                      rw [hZ] at hSt ⊢
                      clear hZ hWn
                      refine wpAnyH_ready (rs := [22]) (by kernel_rfl) (by simp) ?_
                      refine (AllReadyH.cons (o := ⟨some 48, _, _, _, _, _⟩) rfl (fun K hK => ?evq322x22) AllReadyH.nil)
                      case evq322x22 =>
                        go_simp
                        (go_at_call 11; refine (P4.out _).mono ?_; rintro e9 w9 ⟨rfl, rfl⟩)
                        refine hK.out _ _ (hHeld) (fun hHeld2 => ?_)
                        clear hK K hHeld
                        have hHeld := hHeld2
                        clear hHeld2
                        try simp only [Act.put, List.setIfInBounds_toArray, List.set_cons_zero, List.set_cons_succ]
                        first
                          | (refine wpAnyH_take (i := 23) (oi := ⟨some 49, _, _, _, _, _⟩) (v := ?vq323x23) rfl (by kernel_rfl) (by kernel_rfl) (by kernel_rfl) (fun _ _ _ h => h) (Or.inl ⟨by rfl, ?hyq323x23⟩) hHeld ?rrq323x23
                             case hyq323x23 => (intro w hSw; obtain ⟨c0, c1, c2, c3⟩ := rr_first hSw; clear hSw; go_simp; try with_reducible rfl))
                          | (refine wpAnyH_take (i := 23) (oi := ⟨some 49, _, _, _, _, _⟩) (v := undef) rfl (by kernel_rfl) (by kernel_rfl) (by kernel_rfl) (fun _ _ _ h => h) (Or.inr ⟨by rfl, rfl⟩) hHeld ?rrq323x23)
                        try simp only [Act.put, List.setIfInBounds_toArray, List.set_cons_zero, List.set_cons_succ]
                        refine wpAnyH_ready (rs := [25]) (by kernel_rfl) (by simp) ?_
                        refine (AllReadyH.cons (o := ⟨none, _, _, _, _, _⟩) rfl (fun K hK => ?evq323x25) AllReadyH.nil)
                        case evq323x25 =>
                          obtain ⟨s0, s1, s2, s3, t0, t1, t2, t3⟩ := rz_cells hSt.out
                          have hSt5 := hSt.out.put ⟨netZ P NB, NB, 0, (fi : Int)⟩
                          go_simp
                          refine hK.out _ _ (hSt5.st.x) (fun hHeld2 => ?_)
                          clear hK K hHeld
                          have hHeld := hHeld2
                          clear hHeld2
                          try simp only [Act.put, List.setIfInBounds_toArray, List.set_cons_zero, List.set_cons_succ]
                          refine wpAnyH_done (by kernel_rfl) ?_ _
                          refine NoPanic.normal ?_
                          go_wp2_with fail
                          go_meet
                          exact ⟨Z, rfl, Lib.hid hSt5⟩
                  case evq317x24 =>
                    go_simp
                    refine hK.out _ _ (blk_alloc hHeld _) (fun hHeld2 => ?_)
                    clear hK K hHeld
                    have hHeld := hHeld2
                    clear hHeld2
                    try simp only [Act.put, List.setIfInBounds_toArray, List.set_cons_zero, List.set_cons_succ]
                    have hSt := Lib.hid (RzSt.made hSt.out)
                    obtain ⟨Z, hZ⟩ : ∃ Z, Wd1.heap.size = Z := ⟨_, rfl⟩
                    obtain ⟨Wd2, hWn⟩ : ∃ Wn, Wd1.alloc (ro rz) = Wn := ⟨_, rfl⟩
                    rw [show Wd1.alloc (.cells #[.int .i64 0, .int .i64 0, .int .i64 0, .int .i64 0] 29) = Wd2 from hWn] at hHeld ⊢
                    rw [hWn] at hSt
                    rw [hZ] at hSt ⊢
                    clear hZ hWn
                    refine wpAnyH_ready (rs := [17]) (by kernel_rfl) (by simp) ?_
                    refine (AllReadyH.cons (o := ⟨some 43, _, _, _, _, _⟩) rfl (fun K hK => ?evq325x17) AllReadyH.nil)
                    case evq325x17 =>
                      go_simp
                      (go_at_call 23; refine (HN.out _).mono ?_; rintro e9 Wd3 ⟨rfl, hb9⟩)
                      refine hK.out _ _ (blk_below hHeld hb9 (blk_lt hHeld)) (fun hHeld2 => ?_)
                      clear hK K hHeld
                      have hHeld := hHeld2
                      clear hHeld2
                      try simp only [Act.put, List.setIfInBounds_toArray, List.set_cons_zero, List.set_cons_succ]
                      have hSt := Lib.hid (hSt.out.below hb9)
                      clear hb9
                      refine wpAnyH_ready (rs := [22]) (by kernel_rfl) (by simp) ?_
                      refine (AllReadyH.cons (o := ⟨some 48, _, _, _, _, _⟩) rfl (fun K hK => ?evq326x22) AllReadyH.nil)
                      case evq326x22 =>
                        go_simp
                        (go_at_call 11; refine (P4.out _).mono ?_; rintro e9 w9 ⟨rfl, rfl⟩)
                        refine hK.out _ _ (hHeld) (fun hHeld2 => ?_)
                        clear hK K hHeld
                        have hHeld := hHeld2
                        clear hHeld2
                        try simp only [Act.put, List.setIfInBounds_toArray, List.set_cons_zero, List.set_cons_succ]
                        first
                          | (refine wpAnyH_take (i := 23) (oi := ⟨some 49, _, _, _, _, _⟩) (v := ?vq327x23) rfl (by kernel_rfl) (by kernel_rfl) (by kernel_rfl) (fun _ _ _ h => h) (Or.inl ⟨by rfl, ?hyq327x23⟩) hHeld ?rrq327x23
                             case hyq327x23 => (intro w hSw; obtain ⟨c0, c1, c2, c3⟩ := rr_first hSw; clear hSw; go_simp; try with_reducible rfl))
                          | (refine wpAnyH_take (i := 23) (oi := ⟨some 49, _, _, _, _, _⟩) (v := undef) rfl (by kernel_rfl) (by kernel_rfl) (by kernel_rfl) (fun _ _ _ h => h) (Or.inr ⟨by rfl, rfl⟩) hHeld ?rrq327x23)
                        try simp only [Act.put, List.setIfInBounds_toArray, List.set_cons_zero, List.set_cons_succ]
                        refine wpAnyH_ready (rs := [25]) (by kernel_rfl) (by simp) ?_
                        refine (AllReadyH.cons (o := ⟨none, _, _, _, _, _⟩) rfl (fun K hK => ?evq327x25) AllReadyH.nil)
                        case evq327x25 =>
                          obtain ⟨s0, s1, s2, s3, t0, t1, t2, t3⟩ := rz_cells hSt.out
                          have hSt5 := hSt.out.put ⟨netZ P NB, NB, 0, (fi : Int)⟩
                          go_simp
                          refine hK.out _ _ (hSt5.st.x) (fun hHeld2 => ?_)
                          clear hK K hHeld
                          have hHeld := hHeld2
                          clear hHeld2
                          try simp only [Act.put, List.setIfInBounds_toArray, List.set_cons_zero, List.set_cons_succ]
                          refine wpAnyH_done (by kernel_rfl) ?_ _
                          refine NoPanic.normal ?_
                          go_wp2_with fail
                          go_meet
                          exact ⟨Z, rfl, Lib.hid hSt5⟩
                case evq316x24 =>
                  go_simp
                  refine hK.out _ _ (blk_alloc hHeld _) (fun hHeld2 => ?_)
                  clear hK K hHeld
                  have hHeld := hHeld2
                  clear hHeld2
                  try simp only [Act.put, List.setIfInBounds_toArray, List.set_cons_zero, List.set_cons_succ]
                  have hSt := Lib.hid (RzSt.made hSt.out)
                  obtain ⟨Z, hZ⟩ : ∃ Z, Wd1.heap.size = Z := ⟨_, rfl⟩
                  obtain ⟨Wd2, hWn⟩ : ∃ Wn, Wd1.alloc (ro rz) = Wn := ⟨_, rfl⟩
                  have hlit := cell_alloc hlit (ro rz)
                  rw [hWn] at hlit
                  rw [show Wd1.alloc (.cells #[.int .i64 0, .int .i64 0, .int .i64 0, .int .i64 0] 29) = Wd2 from hWn] at hHeld ⊢
                  rw [hWn] at hSt
                  rw [hZ] at hSt ⊢
                  clear hZ hWn
                  refine wpAnyH_ready (rs := [16]) (by kernel_rfl) (by simp) ?_
                  refine (AllReadyH.cons (o := ⟨some 42, _, _, _, _, _⟩) rfl (fun K hK => ?evq329x16) AllReadyH.nil)
                  case evq329x16 =>
                    go_simp
                    refine hK.out _ _ (hHeld) (fun hHeld2 => ?_)
                    clear hK K hHeld
                    have hHeld := hHeld2
                    clear hHeld2
                    try simp only [Act.put, List.setIfInBounds_toArray, List.set_cons_zero, List.set_cons_succ]
                    clear hlit
                    refine wpAnyH_ready (rs := [17]) (by kernel_rfl) (by simp) ?_
                    refine (AllReadyH.cons (o := ⟨some 43, _, _, _, _, _⟩) rfl (fun K hK => ?evq330x17) AllReadyH.nil)
                    case evq330x17 =>
                      go_simp
                      (go_at_call 23; refine (HN.out _).mono ?_; rintro e9 Wd3 ⟨rfl, hb9⟩)
                      refine hK.out _ _ (blk_below hHeld hb9 (blk_lt hHeld)) (fun hHeld2 => ?_)
                      clear hK K hHeld
                      have hHeld := hHeld2
                      clear hHeld2
                      try simp only [Act.put, List.setIfInBounds_toArray, List.set_cons_zero, List.set_cons_succ]
                      have hSt := Lib.hid (hSt.out.below hb9)
                      clear hb9
                      refine wpAnyH_ready (rs := [22]) (by kernel_rfl) (by simp) ?_
                      refine (AllReadyH.cons (o := ⟨some 48, _, _, _, _, _⟩) rfl (fun K hK => ?evq331x22) AllReadyH.nil)
                      case evq331x22 =>
                        go_simp
                        (go_at_call 11; refine (P4.out _).mono ?_; rintro e9 w9 ⟨rfl, rfl⟩)
                        refine hK.out _ _ (hHeld) (fun hHeld2 => ?_)
                        clear hK K hHeld
                        have hHeld := hHeld2
                        clear hHeld2
                        try simp only [Act.put, List.setIfInBounds_toArray, List.set_cons_zero, List.set_cons_succ]
                        first
                          | (refine wpAnyH_take (i := 23) (oi := ⟨some 49, _, _, _, _, _⟩) (v := ?vq332x23) rfl (by kernel_rfl) (by kernel_rfl) (by kernel_rfl) (fun _ _ _ h => h) (Or.inl ⟨by rfl, ?hyq332x23⟩) hHeld ?rrq332x23
                             case hyq332x23 => (intro w hSw; obtain ⟨c0, c1, c2, c3⟩ := rr_first hSw; clear hSw; go_simp; try with_reducible rfl))
                          | (refine wpAnyH_take (i := 23) (oi := ⟨some 49, _, _, _, _, _⟩) (v := undef) rfl (by kernel_rfl) (by kernel_rfl) (by kernel_rfl) (fun _ _ _ h => h) (Or.inr ⟨by rfl, rfl⟩) hHeld ?rrq332x23)
                        try simp only [Act.put, List.setIfInBounds_toArray, List.set_cons_zero, List.set_cons_succ]
                        refine wpAnyH_ready (rs := [25]) (by kernel_rfl) (by simp) ?_
                        refine (AllReadyH.cons (o := ⟨none, _, _, _, _, _⟩) rfl (fun K hK => ?evq332x25) AllReadyH.nil)
                        case evq332x25 =>
                          obtain ⟨s0, s1, s2, s3, t0, t1, t2, t3⟩ := rz_cells hSt.out
                          have hSt5 := hSt.out.put ⟨netZ P NB, NB, 0, (fi : Int)⟩
                          go_simp
                          refine hK.out _ _ (hSt5.st.x) (fun hHeld2 => ?_)
                          clear hK K hHeld
                          have hHeld := hHeld2
                          clear hHeld2
                          try simp only [Act.put, List.setIfInBounds_toArray, List.set_cons_zero, List.set_cons_succ]
                          refine wpAnyH_done (by kernel_rfl) ?_ _
                          refine NoPanic.normal ?_
                          go_wp2_with fail
                          go_meet
                          exact ⟨Z, rfl, Lib.hid hSt5⟩
              case evq315x24 =>
                go_simp
                refine hK.out _ _ (blk_alloc hHeld _) (fun hHeld2 => ?_)
                clear hK K hHeld
                have hHeld := hHeld2
                clear hHeld2
                try simp only [Act.put, List.setIfInBounds_toArray, List.set_cons_zero, List.set_cons_succ]
                have hSt := Lib.hid (RzSt.made hSt.out)
                obtain ⟨Z, hZ⟩ : ∃ Z, Wd1.heap.size = Z := ⟨_, rfl⟩
                obtain ⟨Wd2, hWn⟩ : ∃ Wn, Wd1.alloc (ro rz) = Wn := ⟨_, rfl⟩
                have hlit := cell_alloc hlit (ro rz)
                rw [hWn] at hlit
                rw [show Wd1.alloc (.cells #[.int .i64 0, .int .i64 0, .int .i64 0, .int .i64 0] 29) = Wd2 from hWn] at hHeld ⊢
                rw [hWn] at hSt
                rw [hZ] at hSt ⊢
                clear hZ hWn
                refine wpAnyH_ready (rs := [14]) (by kernel_rfl) (by simp) ?_
                refine (AllReadyH.cons (o := ⟨some 40, _, _, _, _, _⟩) rfl (fun K hK => ?evq334x14) AllReadyH.nil)
                case evq334x14 =>
                  go_simp
                  (go_at_call 11; refine (P3.out _).mono ?_; rintro e9 w9 ⟨rfl, rfl⟩)
                  refine hK.out _ _ (hHeld) (fun hHeld2 => ?_)
                  clear hK K hHeld
                  have hHeld := hHeld2
                  clear hHeld2
                  try simp only [Act.put, List.setIfInBounds_toArray, List.set_cons_zero, List.set_cons_succ]
                  first
                    | (refine wpAnyH_take (i := 15) (oi := ⟨some 41, _, _, _, _, _⟩) (v := ?vq335x15) rfl (by kernel_rfl) (by kernel_rfl) (by kernel_rfl) (fun _ _ _ h => h) (Or.inl ⟨by rfl, ?hyq335x15⟩) hHeld ?rrq335x15
                       case hyq335x15 => (intro w hSw; obtain ⟨c0, c1, c2, c3⟩ := rr_first hSw; clear hSw; go_simp; try with_reducible rfl))
                    | (refine wpAnyH_take (i := 15) (oi := ⟨some 41, _, _, _, _, _⟩) (v := undef) rfl (by kernel_rfl) (by kernel_rfl) (by kernel_rfl) (fun _ _ _ h => h) (Or.inr ⟨by rfl, rfl⟩) hHeld ?rrq335x15)
                  try simp only [Act.put, List.setIfInBounds_toArray, List.set_cons_zero, List.set_cons_succ]
                  refine wpAnyH_ready (rs := [16]) (by kernel_rfl) (by simp) ?_
                  refine (AllReadyH.cons (o := ⟨some 42, _, _, _, _, _⟩) rfl (fun K hK => ?evq335x16) AllReadyH.nil)
                  case evq335x16 =>
                    go_simp
                    refine hK.out _ _ (hHeld) (fun hHeld2 => ?_)
                    clear hK K hHeld
                    have hHeld := hHeld2
                    clear hHeld2
                    try simp only [Act.put, List.setIfInBounds_toArray, List.set_cons_zero, List.set_cons_succ]
                    clear hlit
                    refine wpAnyH_ready (rs := [17]) (by kernel_rfl) (by simp) ?_
                    refine (AllReadyH.cons (o := ⟨some 43, _, _, _, _, _⟩) rfl (fun K hK => ?evq336x17) AllReadyH.nil)
                    case evq336x17 =>
                      go_simp
                      (go_at_call 23; refine (HN.out _).mono ?_; rintro e9 Wd3 ⟨rfl, hb9⟩)
                      refine hK.out _ _ (blk_below hHeld hb9 (blk_lt hHeld)) (fun hHeld2 => ?_)
                      clear hK K hHeld
                      have hHeld := hHeld2
                      clear hHeld2
                      try simp only [Act.put, List.setIfInBounds_toArray, List.set_cons_zero, List.set_cons_succ]
                      have hSt := Lib.hid (hSt.out.below hb9)
                      clear hb9
                      refine wpAnyH_ready (rs := [22]) (by kernel_rfl) (by simp) ?_
                      refine (AllReadyH.cons (o := ⟨some 48, _, _, _, _, _⟩) rfl (fun K hK => ?evq337x22) AllReadyH.nil)
                      case evq337x22 =>
                        go_simp
                        (go_at_call 11; refine (P4.out _).mono ?_; rintro e9 w9 ⟨rfl, rfl⟩)
                        refine hK.out _ _ (hHeld) (fun hHeld2 => ?_)
                        clear hK K hHeld
                        have hHeld := hHeld2
                        clear hHeld2
                        try simp only [Act.put, List.setIfInBounds_toArray, List.set_cons_zero, List.set_cons_succ]
                        first
                          | (refine wpAnyH_take (i := 23) (oi := ⟨some 49, _, _, _, _, _⟩) (v := ?vq338x23) rfl (by kernel_rfl) (by kernel_rfl) (by kernel_rfl) (fun _ _ _ h => h) (Or.inl ⟨by rfl, ?hyq338x23⟩) hHeld ?rrq338x23
                             case hyq338x23 => (intro w hSw; obtain ⟨c0, c1, c2, c3⟩ := rr_first hSw; clear hSw; go_simp; try with_reducible rfl))
                          | (refine wpAnyH_take (i := 23) (oi := ⟨some 49, _, _, _, _, _⟩) (v := undef) rfl (by kernel_rfl) (by kernel_rfl) (by kernel_rfl) (fun _ _ _ h => h) (Or.inr ⟨by rfl, rfl⟩) hHeld ?rrq338x23)
                        try simp only [Act.put, List.setIfInBounds_toArray, List.set_cons_zero, List.set_cons_succ]
                        refine wpAnyH_ready (rs := [25]) (by kernel_rfl) (by simp) ?_
                        refine (AllReadyH.cons (o := ⟨none, _, _, _, _, _⟩) rfl (fun K hK => ?evq338x25) AllReadyH.nil)
                        case evq338x25 =>
                          obtain ⟨s0, s1, s2, s3, t0, t1, t2, t3⟩ := rz_cells hSt.out
                          have hSt5 := hSt.out.put ⟨netZ P NB, NB, 0, (fi : Int)⟩
                          go_simp
                          refine hK.out _ _ (hSt5.st.x) (fun hHeld2 => ?_)
                          clear hK K hHeld
                          have hHeld := hHeld2
                          clear hHeld2
                          try simp only [Act.put, List.setIfInBounds_toArray, List.set_cons_zero, List.set_cons_succ]
                          refine wpAnyH_done (by kernel_rfl) ?_ _
                          refine NoPanic.normal ?_
                          go_wp2_with fail
                          go_meet
                          exact ⟨Z, rfl, Lib.hid hSt5⟩
            case evq314x24 =>
              go_simp
              refine hK.out _ _ (blk_alloc hHeld _) (fun hHeld2 => ?_)
              clear hK K hHeld
              have hHeld := hHeld2
              clear hHeld2
              try simp only [Act.put, List.setIfInBounds_toArray, List.set_cons_zero, List.set_cons_succ]
              have hSt := Lib.hid (RzSt.made hSt.out)
              obtain ⟨Z, hZ⟩ : ∃ Z, Wd1.heap.size = Z := ⟨_, rfl⟩
              obtain ⟨Wd2, hWn⟩ : ∃ Wn, Wd1.alloc (ro rz) = Wn := ⟨_, rfl⟩
              have hlit := cell_alloc hlit (ro rz)
              rw [hWn] at hlit
              rw [show Wd1.alloc (.cells #[.int .i64 0, .int .i64 0, .int .i64 0, .int .i64 0] 29) = Wd2 from hWn] at hHeld ⊢
              rw [hWn] at hSt
              rw [hZ] at hSt ⊢
              clear hZ hWn
              refine wpAnyH_ready (rs := [8]) (by kernel_rfl) (by simp) ?_
              refine (AllReadyH.cons (o := ⟨some 34, _, _, _, _, _⟩) rfl (fun K hK => ?evq340x8) AllReadyH.nil)
              case evq340x8 =>
                go_simp
                (go_at_call 11; refine (P2.out _).mono ?_; rintro e9 w9 ⟨rfl, rfl⟩)
                refine hK.out _ _ (hHeld) (fun hHeld2 => ?_)
                clear hK K hHeld
                have hHeld := hHeld2
                clear hHeld2
                try simp only [Act.put, List.setIfInBounds_toArray, List.set_cons_zero, List.set_cons_succ]
                first
                  | (refine wpAnyH_take (i := 9) (oi := ⟨some 35, _, _, _, _, _⟩) (v := ?vq341x9) rfl (by kernel_rfl) (by kernel_rfl) (by kernel_rfl) (fun _ _ _ h => h) (Or.inl ⟨by rfl, ?hyq341x9⟩) hHeld ?rrq341x9
                     case hyq341x9 => (intro w hSw; obtain ⟨c0, c1, c2, c3⟩ := rr_first hSw; clear hSw; go_simp; try with_reducible rfl))
                  | (refine wpAnyH_take (i := 9) (oi := ⟨some 35, _, _, _, _, _⟩) (v := undef) rfl (by kernel_rfl) (by kernel_rfl) (by kernel_rfl) (fun _ _ _ h => h) (Or.inr ⟨by rfl, rfl⟩) hHeld ?rrq341x9)
                try simp only [Act.put, List.setIfInBounds_toArray, List.set_cons_zero, List.set_cons_succ]
                first
                  | (refine wpAnyH_take (i := 10) (oi := ⟨some 36, _, _, _, _, _⟩) (v := ?vq341x10) rfl (by kernel_rfl) (by kernel_rfl) (by kernel_rfl) (fun _ _ _ h => h) (Or.inl ⟨by rfl, ?hyq341x10⟩) hHeld ?rrq341x10
                     case hyq341x10 => (intro w hSw; obtain ⟨c0, c1, c2, c3⟩ := rr_first hSw; clear hSw; go_simp; try with_reducible rfl))
                  | (refine wpAnyH_take (i := 10) (oi := ⟨some 36, _, _, _, _, _⟩) (v := undef) rfl (by kernel_rfl) (by kernel_rfl) (by kernel_rfl) (fun _ _ _ h => h) (Or.inr ⟨by rfl, rfl⟩) hHeld ?rrq341x10)
                try simp only [Act.put, List.setIfInBounds_toArray, List.set_cons_zero, List.set_cons_succ]
                refine wpAnyH_ready (rs := [14]) (by kernel_rfl) (by simp) ?_
                refine (AllReadyH.cons (o := ⟨some 40, _, _, _, _, _⟩) rfl (fun K hK => ?evq341x14) AllReadyH.nil)
                case evq341x14 =>
                  go_simp
                  (go_at_call 11; refine (P3.out _).mono ?_; rintro e9 w9 ⟨rfl, rfl⟩)
                  refine hK.out _ _ (hHeld) (fun hHeld2 => ?_)
                  clear hK K hHeld
                  have hHeld := hHeld2
                  clear hHeld2
                  try simp only [Act.put, List.setIfInBounds_toArray, List.set_cons_zero, List.set_cons_succ]
                  first
                    | (refine wpAnyH_take (i := 15) (oi := ⟨some 41, _, _, _, _, _⟩) (v := ?vq342x15) rfl (by kernel_rfl) (by kernel_rfl) (by kernel_rfl) (fun _ _ _ h => h) (Or.inl ⟨by rfl, ?hyq342x15⟩) hHeld ?rrq342x15
                       case hyq342x15 => (intro w hSw; obtain ⟨c0, c1, c2, c3⟩ := rr_first hSw; clear hSw; go_simp; try with_reducible rfl))
                    | (refine wpAnyH_take (i := 15) (oi := ⟨some 41, _, _, _, _, _⟩) (v := undef) rfl (by kernel_rfl) (by kernel_rfl) (by kernel_rfl) (fun _ _ _ h => h) (Or.inr ⟨by rfl, rfl⟩) hHeld ?rrq342x15)
                  try simp only [Act.put, List.setIfInBounds_toArray, List.set_cons_zero, List.set_cons_succ]
                  refine wpAnyH_ready (rs := [16]) (by kernel_rfl) (by simp) ?_
                  refine (AllReadyH.cons (o := ⟨some 42, _, _, _, _, _⟩) rfl (fun K hK => ?evq342x16) AllReadyH.nil)
                  case evq342x16 =>
                    go_simp
                    refine hK.out _ _ (hHeld) (fun hHeld2 => ?_)
                    clear hK K hHeld
                    have hHeld := hHeld2
                    clear hHeld2
                    try simp only [Act.put, List.setIfInBounds_toArray, List.set_cons_zero, List.set_cons_succ]
                    clear hlit
                    refine wpAnyH_ready (rs := [17]) (by kernel_rfl) (by simp) ?_
                    refine (AllReadyH.cons (o := ⟨some 43, _, _, _, _, _⟩) rfl (fun K hK => ?evq343x17) AllReadyH.nil)
                    case evq343x17 =>
                      go_simp
                      (go_at_call 23; refine (HN.out _).mono ?_; rintro e9 Wd3 ⟨rfl, hb9⟩)
                      refine hK.out _ _ (blk_below hHeld hb9 (blk_lt hHeld)) (fun hHeld2 => ?_)
                      clear hK K hHeld
                      have hHeld := hHeld2
                      clear hHeld2
                      try simp only [Act.put, List.setIfInBounds_toArray, List.set_cons_zero, List.set_cons_succ]
                      have hSt := Lib.hid (hSt.out.below hb9)
                      clear hb9
                      refine wpAnyH_ready (rs := [22]) (by kernel_rfl) (by simp) ?_
                      refine (AllReadyH.cons (o := ⟨some 48, _, _, _, _, _⟩) rfl (fun K hK => ?evq344x22) AllReadyH.nil)
                      case evq344x22 =>
                        go_simp
                        (go_at_call 11; refine (P4.out _).mono ?_; rintro e9 w9 ⟨rfl, rfl⟩)
                        refine hK.out _ _ (hHeld) (fun hHeld2 => ?_)
                        clear hK K hHeld
                        have hHeld := hHeld2
                        clear hHeld2
                        try simp only [Act.put, List.setIfInBounds_toArray, List.set_cons_zero, List.set_cons_succ]
                        first
                          | (refine wpAnyH_take (i := 23) (oi := ⟨some 49, _, _, _, _, _⟩) (v := ?vq345x23) rfl (by kernel_rfl) (by kernel_rfl) (by kernel_rfl) (fun _ _ _ h => h) (Or.inl ⟨by rfl, ?hyq345x23⟩) hHeld ?rrq345x23
                             case hyq345x23 => (intro w hSw; obtain ⟨c0, c1, c2, c3⟩ := rr_first hSw; clear hSw; go_simp; try with_reducible rfl))
                          | (refine wpAnyH_take (i := 23) (oi := ⟨some 49, _, _, _, _, _⟩) (v := undef) rfl (by kernel_rfl) (by kernel_rfl) (by kernel_rfl) (fun _ _ _ h => h) (Or.inr ⟨by rfl, rfl⟩) hHeld ?rrq345x23)
                        try simp only [Act.put, List.setIfInBounds_toArray, List.set_cons_zero, List.set_cons_succ]
                        refine wpAnyH_ready (rs := [25]) (by kernel_rfl) (by simp) ?_
                        refine (AllReadyH.cons (o := ⟨none, _, _, _, _, _⟩) rfl (fun K hK => ?evq345x25) AllReadyH.nil)
                        case evq345x25 =>
                          obtain ⟨s0, s1, s2, s3, t0, t1, t2, t3⟩ := rz_cells hSt.out
                          have hSt5 := hSt.out.put ⟨netZ P NB, NB, 0, (fi : Int)⟩
                          go_simp
                          refine hK.out _ _ (hSt5.st.x) (fun hHeld2 => ?_)
                          clear hK K hHeld
                          have hHeld := hHeld2
                          clear hHeld2
                          try simp only [Act.put, List.setIfInBounds_toArray, List.set_cons_zero, List.set_cons_succ]
                          refine wpAnyH_done (by kernel_rfl) ?_ _
                          refine NoPanic.normal ?_
                          go_wp2_with fail
                          go_meet
                          exact ⟨Z, rfl, Lib.hid hSt5⟩
          case evq313x24 =>
            go_simp
            refine hK.out _ _ (blk_alloc hHeld _) (fun hHeld2 => ?_)
            clear hK K hHeld
            have hHeld := hHeld2
            clear hHeld2
            try simp only [Act.put, List.setIfInBounds_toArray, List.set_cons_zero, List.set_cons_succ]
            have hSt := Lib.hid (RzSt.made hSt.out)
            obtain ⟨Z, hZ⟩ : ∃ Z, Wd1.heap.size = Z := ⟨_, rfl⟩
            obtain ⟨Wd2, hWn⟩ : ∃ Wn, Wd1.alloc (ro rz) = Wn := ⟨_, rfl⟩
            have hlit := cell_alloc hlit (ro rz)
            rw [hWn] at hlit
            rw [show Wd1.alloc (.cells #[.int .i64 0, .int .i64 0, .int .i64 0, .int .i64 0] 29) = Wd2 from hWn] at hHeld ⊢
            rw [hWn] at hSt
            rw [hZ] at hSt ⊢
            clear hZ hWn
            refine wpAnyH_ready (rs := [3]) (by kernel_rfl) (by simp) ?_
            refine (AllReadyH.cons (o := ⟨some 29, _, _, _, _, _⟩) rfl (fun K hK => ?evq347x3) AllReadyH.nil)
            case evq347x3 =>
              go_simp
              (go_at_call 11; refine (P1.out _).mono ?_; rintro e9 w9 ⟨rfl, rfl⟩)
              refine hK.out _ _ (hHeld) (fun hHeld2 => ?_)
              clear hK K hHeld
              have hHeld := hHeld2
              clear hHeld2
              try simp only [Act.put, List.setIfInBounds_toArray, List.set_cons_zero, List.set_cons_succ]
              first
                | (refine wpAnyH_take (i := 4) (oi := ⟨some 30, _, _, _, _, _⟩) (v := ?vq348x4) rfl (by kernel_rfl) (by kernel_rfl) (by kernel_rfl) (fun _ _ _ h => h) (Or.inl ⟨by rfl, ?hyq348x4⟩) hHeld ?rrq348x4
                   case hyq348x4 => (intro w hSw; obtain ⟨c0, c1, c2, c3⟩ := rr_first hSw; clear hSw; go_simp; try with_reducible rfl))
                | (refine wpAnyH_take (i := 4) (oi := ⟨some 30, _, _, _, _, _⟩) (v := undef) rfl (by kernel_rfl) (by kernel_rfl) (by kernel_rfl) (fun _ _ _ h => h) (Or.inr ⟨by rfl, rfl⟩) hHeld ?rrq348x4)
              try simp only [Act.put, List.setIfInBounds_toArray, List.set_cons_zero, List.set_cons_succ]
              first
                | (refine wpAnyH_take (i := 5) (oi := ⟨some 31, _, _, _, _, _⟩) (v := ?vq348x5) rfl (by kernel_rfl) (by kernel_rfl) (by kernel_rfl) (fun _ _ _ h => h) (Or.inl ⟨by rfl, ?hyq348x5⟩) hHeld ?rrq348x5
                   case hyq348x5 => (intro w hSw; obtain ⟨c0, c1, c2, c3⟩ := rr_first hSw; clear hSw; go_simp; try with_reducible rfl))
                | (refine wpAnyH_take (i := 5) (oi := ⟨some 31, _, _, _, _, _⟩) (v := undef) rfl (by kernel_rfl) (by kernel_rfl) (by kernel_rfl) (fun _ _ _ h => h) (Or.inr ⟨by rfl, rfl⟩) hHeld ?rrq348x5)
              try simp only [Act.put, List.setIfInBounds_toArray, List.set_cons_zero, List.set_cons_succ]
              refine wpAnyH_ready (rs := [8]) (by kernel_rfl) (by simp) ?_
              refine (AllReadyH.cons (o := ⟨some 34, _, _, _, _, _⟩) rfl (fun K hK => ?evq348x8) AllReadyH.nil)
              case evq348x8 =>
                go_simp
                (go_at_call 11; refine (P2.out _).mono ?_; rintro e9 w9 ⟨rfl, rfl⟩)
                refine hK.out _ _ (hHeld) (fun hHeld2 => ?_)
                clear hK K hHeld
                have hHeld := hHeld2
                clear hHeld2
                try simp only [Act.put, List.setIfInBounds_toArray, List.set_cons_zero, List.set_cons_succ]
                first
                  | (refine wpAnyH_take (i := 9) (oi := ⟨some 35, _, _, _, _, _⟩) (v := ?vq349x9) rfl (by kernel_rfl) (by kernel_rfl) (by kernel_rfl) (fun _ _ _ h => h) (Or.inl ⟨by rfl, ?hyq349x9⟩) hHeld ?rrq349x9
                     case hyq349x9 => (intro w hSw; obtain ⟨c0, c1, c2, c3⟩ := rr_first hSw; clear hSw; go_simp; try with_reducible rfl))
                  | (refine wpAnyH_take (i := 9) (oi := ⟨some 35, _, _, _, _, _⟩) (v := undef) rfl (by kernel_rfl) (by kernel_rfl) (by kernel_rfl) (fun _ _ _ h => h) (Or.inr ⟨by rfl, rfl⟩) hHeld ?rrq349x9)
                try simp only [Act.put, List.setIfInBounds_toArray, List.set_cons_zero, List.set_cons_succ]
                first
                  | (refine wpAnyH_take (i := 10) (oi := ⟨some 36, _, _, _, _, _⟩) (v := ?vq349x10) rfl (by kernel_rfl) (by kernel_rfl) (by kernel_rfl) (fun _ _ _ h => h) (Or.inl ⟨by rfl, ?hyq349x10⟩) hHeld ?rrq349x10
                     case hyq349x10 => (intro w hSw; obtain ⟨c0, c1, c2, c3⟩ := rr_first hSw; clear hSw; go_simp; try with_reducible rfl))
                  | (refine wpAnyH_take (i := 10) (oi := ⟨some 36, _, _, _, _, _⟩) (v := undef) rfl (by kernel_rfl) (by kernel_rfl) (by kernel_rfl) (fun _ _ _ h => h) (Or.inr ⟨by rfl, rfl⟩) hHeld ?rrq349x10)
                try simp only [Act.put, List.setIfInBounds_toArray, List.set_cons_zero, List.set_cons_succ]
                refine wpAnyH_ready (rs := [14]) (by kernel_rfl) (by simp) ?_
                refine (AllReadyH.cons (o := ⟨some 40, _, _, _, _, _⟩) rfl (fun K hK => ?evq349x14) AllReadyH.nil)
                case evq349x14 =>
                  go_simp
                  (go_at_call 11; refine (P3.out _).mono ?_; rintro e9 w9 ⟨rfl, rfl⟩)
                  refine hK.out _ _ (hHeld) (fun hHeld2 => ?_)
                  clear hK K hHeld
                  have hHeld := hHeld2
                  clear hHeld2
                  try simp only [Act.put, List.setIfInBounds_toArray, List.set_cons_zero, List.set_cons_succ]
                  first
                    | (refine wpAnyH_take (i := 15) (oi := ⟨some 41, _, _, _, _, _⟩) (v := ?vq350x15) rfl (by kernel_rfl) (by kernel_rfl) (by kernel_rfl) (fun _ _ _ h => h) (Or.inl ⟨by rfl, ?hyq350x15⟩) hHeld ?rrq350x15
                       case hyq350x15 => (intro w hSw; obtain ⟨c0, c1, c2, c3⟩ := rr_first hSw; clear hSw; go_simp; try with_reducible rfl))
                    | (refine wpAnyH_take (i := 15) (oi := ⟨some 41, _, _, _, _, _⟩) (v := undef) rfl (by kernel_rfl) (by kernel_rfl) (by kernel_rfl) (fun _ _ _ h => h) (Or.inr ⟨by rfl, rfl⟩) hHeld ?rrq350x15)
                  try simp only [Act.put, List.setIfInBounds_toArray, List.set_cons_zero, List.set_cons_succ]
                  refine wpAnyH_ready (rs := [16]) (by kernel_rfl) (by simp) ?_
                  refine (AllReadyH.cons (o := ⟨some 42, _, _, _, _, _⟩) rfl (fun K hK => ?evq350x16) AllReadyH.nil)
                  case evq350x16 =>
                    go_simp
                    refine hK.out _ _ (hHeld) (fun hHeld2 => ?_)
                    clear hK K hHeld
                    have hHeld := hHeld2
                    clear hHeld2
                    try simp only [Act.put, List.setIfInBounds_toArray, List.set_cons_zero, List.set_cons_succ]
                    clear hlit
                    refine wpAnyH_ready (rs := [17]) (by kernel_rfl) (by simp) ?_
                    refine (AllReadyH.cons (o := ⟨some 43, _, _, _, _, _⟩) rfl (fun K hK => ?evq351x17) AllReadyH.nil)
                    case evq351x17 =>
                      go_simp
                      (go_at_call 23; refine (HN.out _).mono ?_; rintro e9 Wd3 ⟨rfl, hb9⟩)
                      refine hK.out _ _ (blk_below hHeld hb9 (blk_lt hHeld)) (fun hHeld2 => ?_)
                      clear hK K hHeld
                      have hHeld := hHeld2
                      clear hHeld2
                      try simp only [Act.put, List.setIfInBounds_toArray, List.set_cons_zero, List.set_cons_succ]
                      have hSt := Lib.hid (hSt.out.below hb9)
                      clear hb9
                      refine wpAnyH_ready (rs := [22]) (by kernel_rfl) (by simp) ?_
                      refine (AllReadyH.cons (o := ⟨some 48, _, _, _, _, _⟩) rfl (fun K hK => ?evq352x22) AllReadyH.nil)
                      case evq352x22 =>
                        go_simp
                        (go_at_call 11; refine (P4.out _).mono ?_; rintro e9 w9 ⟨rfl, rfl⟩)
                        refine hK.out _ _ (hHeld) (fun hHeld2 => ?_)
                        clear hK K hHeld
                        have hHeld := hHeld2
                        clear hHeld2
                        try simp only [Act.put, List.setIfInBounds_toArray, List.set_cons_zero, List.set_cons_succ]
                        first
                          | (refine wpAnyH_take (i := 23) (oi := ⟨some 49, _, _, _, _, _⟩) (v := ?vq353x23) rfl (by kernel_rfl) (by kernel_rfl) (by kernel_rfl) (fun _ _ _ h => h) (Or.inl ⟨by rfl, ?hyq353x23⟩) hHeld ?rrq353x23
                             case hyq353x23 => (intro w hSw; obtain ⟨c0, c1, c2, c3⟩ := rr_first hSw; clear hSw; go_simp; try with_reducible rfl))
                          | (refine wpAnyH_take (i := 23) (oi := ⟨some 49, _, _, _, _, _⟩) (v := undef) rfl (by kernel_rfl) (by kernel_rfl) (by kernel_rfl) (fun _ _ _ h => h) (Or.inr ⟨by rfl, rfl⟩) hHeld ?rrq353x23)
                        try simp only [Act.put, List.setIfInBounds_toArray, List.set_cons_zero, List.set_cons_succ]
                        refine wpAnyH_ready (rs := [25]) (by kernel_rfl) (by simp) ?_
                        refine (AllReadyH.cons (o := ⟨none, _, _, _, _, _⟩) rfl (fun K hK => ?evq353x25) AllReadyH.nil)
                        case evq353x25 =>
                          obtain ⟨s0, s1, s2, s3, t0, t1, t2, t3⟩ := rz_cells hSt.out
                          have hSt5 := hSt.out.put ⟨netZ P NB, NB, 0, (fi : Int)⟩
                          go_simp
                          refine hK.out _ _ (hSt5.st.x) (fun hHeld2 => ?_)
                          clear hK K hHeld
                          have hHeld := hHeld2
                          clear hHeld2
                          try simp only [Act.put, List.setIfInBounds_toArray, List.set_cons_zero, List.set_cons_succ]
                          refine wpAnyH_done (by kernel_rfl) ?_ _
                          refine NoPanic.normal ?_
                          go_wp2_with fail
                          go_meet
                          exact ⟨Z, rfl, Lib.hid hSt5⟩
        case evq193x24 =>
          go_simp
          refine hK.out _ _ (blk_alloc hHeld _) (fun hHeld2 => ?_)
          clear hK K hHeld
          have hHeld := hHeld2
          clear hHeld2
          try simp only [Act.put, List.setIfInBounds_toArray, List.set_cons_zero, List.set_cons_succ]
          have hSt := Lib.hid (RzSt.made hSt.out)
          obtain ⟨Z, hZ⟩ : ∃ Z, Wd.heap.size = Z := ⟨_, rfl⟩
          obtain ⟨Wd1, hWn⟩ : ∃ Wn, Wd.alloc (ro rz) = Wn := ⟨_, rfl⟩
          rw [show Wd.alloc (.cells #[.int .i64 0, .int .i64 0, .int .i64 0, .int .i64 0] 29) = Wd1 from hWn] at hHeld ⊢
          rw [hWn] at hSt
          rw [hZ] at hSt ⊢
          clear hZ hWn
          refine wpAnyH_ready (rs := [3, 11]) (by kernel_rfl) (by simp) ?_
          refine (AllReadyH.cons (o := ⟨some 29, _, _, _, _, _⟩) rfl (fun K hK => ?evq355x3) (AllReadyH.cons (o := ⟨some 37, _, _, _, _, _⟩) rfl (fun K hK => ?evq355x11) AllReadyH.nil))
          case evq355x3 =>
            go_simp
            (go_at_call 11; refine (P1.out _).mono ?_; rintro e9 w9 ⟨rfl, rfl⟩)
            refine hK.out _ _ (hHeld) (fun hHeld2 => ?_)
            clear hK K hHeld
            have hHeld := hHeld2
            clear hHeld2
            try simp only [Act.put, List.setIfInBounds_toArray, List.set_cons_zero, List.set_cons_succ]
            first
              | (refine wpAnyH_take (i := 4) (oi := ⟨some 30, _, _, _, _, _⟩) (v := ?vq356x4) rfl (by kernel_rfl) (by kernel_rfl) (by kernel_rfl) (fun _ _ _ h => h) (Or.inl ⟨by rfl, ?hyq356x4⟩) hHeld ?rrq356x4
                 case hyq356x4 => (intro w hSw; obtain ⟨c0, c1, c2, c3⟩ := rr_first hSw; clear hSw; go_simp; try with_reducible rfl))
              | (refine wpAnyH_take (i := 4) (oi := ⟨some 30, _, _, _, _, _⟩) (v := undef) rfl (by kernel_rfl) (by kernel_rfl) (by kernel_rfl) (fun _ _ _ h => h) (Or.inr ⟨by rfl, rfl⟩) hHeld ?rrq356x4)
            try simp only [Act.put, List.setIfInBounds_toArray, List.set_cons_zero, List.set_cons_succ]
            first
              | (refine wpAnyH_take (i := 5) (oi := ⟨some 31, _, _, _, _, _⟩) (v := ?vq356x5) rfl (by kernel_rfl) (by kernel_rfl) (by kernel_rfl) (fun _ _ _ h => h) (Or.inl ⟨by rfl, ?hyq356x5⟩) hHeld ?rrq356x5
                 case hyq356x5 => (intro w hSw; obtain ⟨c0, c1, c2, c3⟩ := rr_first hSw; clear hSw; go_simp; try with_reducible rfl))
              | (refine wpAnyH_take (i := 5) (oi := ⟨some 31, _, _, _, _, _⟩) (v := undef) rfl (by kernel_rfl) (by kernel_rfl) (by kernel_rfl) (fun _ _ _ h => h) (Or.inr ⟨by rfl, rfl⟩) hHeld ?rrq356x5)
            try simp only [Act.put, List.setIfInBounds_toArray, List.set_cons_zero, List.set_cons_succ]
            refine wpAnyH_ready (rs := [8, 11]) (by kernel_rfl) (by simp) ?_
            refine (AllReadyH.cons (o := ⟨some 34, _, _, _, _, _⟩) rfl (fun K hK => ?evq356x8) (AllReadyH.cons (o := ⟨some 37, _, _, _, _, _⟩) rfl (fun K hK => ?evq356x11) AllReadyH.nil))
            case evq356x8 =>
              go_simp
              (go_at_call 11; refine (P2.out _).mono ?_; rintro e9 w9 ⟨rfl, rfl⟩)
              refine hK.out _ _ (hHeld) (fun hHeld2 => ?_)
              clear hK K hHeld
              have hHeld := hHeld2
              clear hHeld2
              try simp only [Act.put, List.setIfInBounds_toArray, List.set_cons_zero, List.set_cons_succ]
              first
                | (refine wpAnyH_take (i := 9) (oi := ⟨some 35, _, _, _, _, _⟩) (v := ?vq357x9) rfl (by kernel_rfl) (by kernel_rfl) (by kernel_rfl) (fun _ _ _ h => h) (Or.inl ⟨by rfl, ?hyq357x9⟩) hHeld ?rrq357x9
                   case hyq357x9 => (intro w hSw; obtain ⟨c0, c1, c2, c3⟩ := rr_first hSw; clear hSw; go_simp; try with_reducible rfl))
                | (refine wpAnyH_take (i := 9) (oi := ⟨some 35, _, _, _, _, _⟩) (v := undef) rfl (by kernel_rfl) (by kernel_rfl) (by kernel_rfl) (fun _ _ _ h => h) (Or.inr ⟨by rfl, rfl⟩) hHeld ?rrq357x9)
              try simp only [Act.put, List.setIfInBounds_toArray, List.set_cons_zero, List.set_cons_succ]
              first
                | (refine wpAnyH_take (i := 10) (oi := ⟨some 36, _, _, _, _, _⟩) (v := ?vq357x10) rfl (by kernel_rfl) (by kernel_rfl) (by kernel_rfl) (fun _ _ _ h => h) (Or.inl ⟨by rfl, ?hyq357x10⟩) hHeld ?rrq357x10
                   case hyq357x10 => (intro w hSw; obtain ⟨c0, c1, c2, c3⟩ := rr_first hSw; clear hSw; go_simp; try with_reducible rfl))
                | (refine wpAnyH_take (i := 10) (oi := ⟨some 36, _, _, _, _, _⟩) (v := undef) rfl (by kernel_rfl) (by kernel_rfl) (by kernel_rfl) (fun _ _ _ h => h) (Or.inr ⟨by rfl, rfl⟩) hHeld ?rrq357x10)
              try simp only [Act.put, List.setIfInBounds_toArray, List.set_cons_zero, List.set_cons_succ]
              refine wpAnyH_ready (rs := [11, 14]) (by kernel_rfl) (by simp) ?_
              refine (AllReadyH.cons (o := ⟨some 37, _, _, _, _, _⟩) rfl (fun K hK => ?evq357x11) (AllReadyH.cons (o := ⟨some 40, _, _, _, _, _⟩) rfl (fun K hK => ?evq357x14) AllReadyH.nil))
              case evq357x11 =>
                go_simp
                refine hK.out _ _ (blk_alloc hHeld _) (fun hHeld2 => ?_)
                clear hK K hHeld
                have hHeld := hHeld2
                clear hHeld2
                try simp only [Act.put, List.setIfInBounds_toArray, List.set_cons_zero, List.set_cons_succ]
                have hlit := HLJ.out Wd1
                have hSt := Lib.hid (hSt.out.below (below_alloc Wd1 oLit8))
                obtain ⟨L, hL⟩ : ∃ L, Wd1.heap.size = L := ⟨_, rfl⟩
                obtain ⟨Wd2, hWn⟩ : ∃ Wn, Wd1.alloc oLit8 = Wn := ⟨_, rfl⟩
                rw [hWn] at hlit hSt hHeld ⊢
                rw [hL] at hlit ⊢
                clear hL hWn
                refine wpAnyH_ready (rs := [14]) (by kernel_rfl) (by simp) ?_
                refine (AllReadyH.cons (o := ⟨some 40, _, _, _, _, _⟩) rfl (fun K hK => ?evq358x14) AllReadyH.nil)
                case evq358x14 =>
                  go_simp
                  (go_at_call 11; refine (P3.out _).mono ?_; rintro e9 w9 ⟨rfl, rfl⟩)
                  refine hK.out _ _ (hHeld) (fun hHeld2 => ?_)
                  clear hK K hHeld
                  have hHeld := hHeld2
                  clear hHeld2
                  try simp only [Act.put, List.setIfInBounds_toArray, List.set_cons_zero, List.set_cons_succ]
                  first
                    | (refine wpAnyH_take (i := 15) (oi := ⟨some 41, _, _, _, _, _⟩) (v := ?vq359x15) rfl (by kernel_rfl) (by kernel_rfl) (by kernel_rfl) (fun _ _ _ h => h) (Or.inl ⟨by rfl, ?hyq359x15⟩) hHeld ?rrq359x15
                       case hyq359x15 => (intro w hSw; obtain ⟨c0, c1, c2, c3⟩ := rr_first hSw; clear hSw; go_simp; try with_reducible rfl))
                    | (refine wpAnyH_take (i := 15) (oi := ⟨some 41, _, _, _, _, _⟩) (v := undef) rfl (by kernel_rfl) (by kernel_rfl) (by kernel_rfl) (fun _ _ _ h => h) (Or.inr ⟨by rfl, rfl⟩) hHeld ?rrq359x15)
                  try simp only [Act.put, List.setIfInBounds_toArray, List.set_cons_zero, List.set_cons_succ]
                  refine wpAnyH_ready (rs := [16]) (by kernel_rfl) (by simp) ?_
                  refine (AllReadyH.cons (o := ⟨some 42, _, _, _, _, _⟩) rfl (fun K hK => ?evq359x16) AllReadyH.nil)
                  case evq359x16 =>
                    go_simp
                    refine hK.out _ _ (hHeld) (fun hHeld2 => ?_)
                    clear hK K hHeld
                    have hHeld := hHeld2
                    clear hHeld2
                    try simp only [Act.put, List.setIfInBounds_toArray, List.set_cons_zero, List.set_cons_succ]
                    clear hlit
                    refine wpAnyH_ready (rs := [17]) (by kernel_rfl) (by simp) ?_
                    refine (AllReadyH.cons (o := ⟨some 43, _, _, _, _, _⟩) rfl (fun K hK => ?evq360x17) AllReadyH.nil)
                    case evq360x17 =>
                      go_simp
                      (go_at_call 23; refine (HN.out _).mono ?_; rintro e9 Wd3 ⟨rfl, hb9⟩)
                      refine hK.out _ _ (blk_below hHeld hb9 (blk_lt hHeld)) (fun hHeld2 => ?_)
                      clear hK K hHeld
                      have hHeld := hHeld2
                      clear hHeld2
                      try simp only [Act.put, List.setIfInBounds_toArray, List.set_cons_zero, List.set_cons_succ]
                      have hSt := Lib.hid (hSt.out.below hb9)
                      clear hb9
                      refine wpAnyH_ready (rs := [22]) (by kernel_rfl) (by simp) ?_
                      refine (AllReadyH.cons (o := ⟨some 48, _, _, _, _, _⟩) rfl (fun K hK => ?evq361x22) AllReadyH.nil)
                      case evq361x22 =>
                        go_simp
                        (go_at_call 11; refine (P4.out _).mono ?_; rintro e9 w9 ⟨rfl, rfl⟩)
                        refine hK.out _ _ (hHeld) (fun hHeld2 => ?_)
                        clear hK K hHeld
                        have hHeld := hHeld2
                        clear hHeld2
                        try simp only [Act.put, List.setIfInBounds_toArray, List.set_cons_zero, List.set_cons_succ]
                        first
                          | (refine wpAnyH_take (i := 23) (oi := ⟨some 49, _, _, _, _, _⟩) (v := ?vq362x23) rfl (by kernel_rfl) (by kernel_rfl) (by kernel_rfl) (fun _ _ _ h => h) (Or.inl ⟨by rfl, ?hyq362x23⟩) hHeld ?rrq362x23
                             case hyq362x23 => (intro w hSw; obtain ⟨c0, c1, c2, c3⟩ := rr_first hSw; clear hSw; go_simp; try with_reducible rfl))
                          | (refine wpAnyH_take (i := 23) (oi := ⟨some 49, _, _, _, _, _⟩) (v := undef) rfl (by kernel_rfl) (by kernel_rfl) (by kernel_rfl) (fun _ _ _ h => h) (Or.inr ⟨by rfl, rfl⟩) hHeld ?rrq362x23)
                        try simp only [Act.put, List.setIfInBounds_toArray, List.set_cons_zero, List.set_cons_succ]
                        refine wpAnyH_ready (rs := [25]) (by kernel_rfl) (by simp) ?_
                        refine (AllReadyH.cons (o := ⟨none, _, _, _, _, _⟩) rfl (fun K hK => ?evq362x25) AllReadyH.nil)
                        case evq362x25 =>
                          obtain ⟨s0, s1, s2, s3, t0, t1, t2, t3⟩ := rz_cells hSt.out
                          have hSt5 := hSt.out.put ⟨netZ P NB, NB, 0, (fi : Int)⟩
                          go_simp
                          refine hK.out _ _ (hSt5.st.x) (fun hHeld2 => ?_)
                          clear hK K hHeld
                          have hHeld := hHeld2
                          clear hHeld2
                          try simp only [Act.put, List.setIfInBounds_toArray, List.set_cons_zero, List.set_cons_succ]
                          refine wpAnyH_done (by kernel_rfl) ?_ _
                          refine NoPanic.normal ?_
                          go_wp2_with fail
                          go_meet
                          exact ⟨Z, rfl, Lib.hid hSt5⟩
              case evq357x14 =>
                go_simp
                (go_at_call 11; refine (P3.out _).mono ?_; rintro e9 w9 ⟨rfl, rfl⟩)
                refine hK.out _ _ (hHeld) (fun hHeld2 => ?_)
                clear hK K hHeld
                have hHeld := hHeld2
                clear hHeld2
                try simp only [Act.put, List.setIfInBounds_toArray, List.set_cons_zero, List.set_cons_succ]
                refine wpAnyH_ready (rs := [11]) (by kernel_rfl) (by simp) ?_
                refine (AllReadyH.cons (o := ⟨some 37, _, _, _, _, _⟩) rfl (fun K hK => ?evq364x11) AllReadyH.nil)
                case evq364x11 =>
                  go_simp
                  refine hK.out _ _ (blk_alloc hHeld _) (fun hHeld2 => ?_)
                  clear hK K hHeld
                  have hHeld := hHeld2
                  clear hHeld2
                  try simp only [Act.put, List.setIfInBounds_toArray, List.set_cons_zero, List.set_cons_succ]
                  have hlit := HLJ.out Wd1
                  have hSt := Lib.hid (hSt.out.below (below_alloc Wd1 oLit8))
                  obtain ⟨L, hL⟩ : ∃ L, Wd1.heap.size = L := ⟨_, rfl⟩
                  obtain ⟨Wd2, hWn⟩ : ∃ Wn, Wd1.alloc oLit8 = Wn := ⟨_, rfl⟩
                  rw [hWn] at hlit hSt hHeld ⊢
                  rw [hL] at hlit ⊢
                  clear hL hWn
                  first
                    | (refine wpAnyH_take (i := 15) (oi := ⟨some 41, _, _, _, _, _⟩) (v := ?vq365x15) rfl (by kernel_rfl) (by kernel_rfl) (by kernel_rfl) (fun _ _ _ h => h) (Or.inl ⟨by rfl, ?hyq365x15⟩) hHeld ?rrq365x15
                       case hyq365x15 => (intro w hSw; obtain ⟨c0, c1, c2, c3⟩ := rr_first hSw; clear hSw; go_simp; try with_reducible rfl))
                    | (refine wpAnyH_take (i := 15) (oi := ⟨some 41, _, _, _, _, _⟩) (v := undef) rfl (by kernel_rfl) (by kernel_rfl) (by kernel_rfl) (fun _ _ _ h => h) (Or.inr ⟨by rfl, rfl⟩) hHeld ?rrq365x15)
                  try simp only [Act.put, List.setIfInBounds_toArray, List.set_cons_zero, List.set_cons_succ]
                  refine wpAnyH_ready (rs := [16]) (by kernel_rfl) (by simp) ?_
                  refine (AllReadyH.cons (o := ⟨some 42, _, _, _, _, _⟩) rfl (fun K hK => ?evq365x16) AllReadyH.nil)
                  case evq365x16 =>
                    go_simp
                    refine hK.out _ _ (hHeld) (fun hHeld2 => ?_)
                    clear hK K hHeld
                    have hHeld := hHeld2
                    clear hHeld2
                    try simp only [Act.put, List.setIfInBounds_toArray, List.set_cons_zero, List.set_cons_succ]
                    clear hlit
                    refine wpAnyH_ready (rs := [17]) (by kernel_rfl) (by simp) ?_
                    refine (AllReadyH.cons (o := ⟨some 43, _, _, _, _, _⟩) rfl (fun K hK => ?evq366x17) AllReadyH.nil)
                    case evq366x17 =>
                      go_simp
                      (go_at_call 23; refine (HN.out _).mono ?_; rintro e9 Wd3 ⟨rfl, hb9⟩)
                      refine hK.out _ _ (blk_below hHeld hb9 (blk_lt hHeld)) (fun hHeld2 => ?_)
                      clear hK K hHeld
                      have hHeld := hHeld2
                      clear hHeld2
                      try simp only [Act.put, List.setIfInBounds_toArray, List.set_cons_zero, List.set_cons_succ]
                      have hSt := Lib.hid (hSt.out.below hb9)
                      clear hb9
                      refine wpAnyH_ready (rs := [22]) (by kernel_rfl) (by simp) ?_
                      refine (AllReadyH.cons (o := ⟨some 48, _, _, _, _, _⟩) rfl (fun K hK => ?evq367x22) AllReadyH.nil)
                      case evq367x22 =>
                        go_simp
                        (go_at_call 11; refine (P4.out _).mono ?_; rintro e9 w9 ⟨rfl, rfl⟩)
                        refine hK.out _ _ (hHeld) (fun hHeld2 => ?_)
                        clear hK K hHeld
                        have hHeld := hHeld2
                        clear hHeld2
                        try simp only [Act.put, List.setIfInBounds_toArray, List.set_cons_zero, List.set_cons_succ]
                        first
                          | (refine wpAnyH_take (i := 23) (oi := ⟨some 49, _, _, _, _, _⟩) (v := ?vq368x23) rfl (by kernel_rfl) (by kernel_rfl) (by kernel_rfl) (fun _ _ _ h => h) (Or.inl ⟨by rfl, ?hyq368x23⟩) hHeld ?rrq368x23
                             case hyq368x23 => (intro w hSw; obtain ⟨c0, c1, c2, c3⟩ := rr_first hSw; clear hSw; go_simp; try with_reducible rfl))
                          | (refine wpAnyH_take (i := 23) (oi := ⟨some 49, _, _, _, _, _⟩) (v := undef) rfl (by kernel_rfl) (by kernel_rfl) (by kernel_rfl) (fun _ _ _ h => h) (Or.inr ⟨by rfl, rfl⟩) hHeld ?rrq368x23)
                        try simp only [Act.put, List.setIfInBounds_toArray, List.set_cons_zero, List.set_cons_succ]
                        refine wpAnyH_ready (rs := [25]) (by kernel_rfl) (by simp) ?_
                        refine (AllReadyH.cons (o := ⟨none, _, _, _, _, _⟩) rfl (fun K hK => ?evq368x25) AllReadyH.nil)
                        case evq368x25 =>
                          obtain ⟨s0, s1, s2, s3, t0, t1, t2, t3⟩ := rz_cells hSt.out
                          have hSt5 := hSt.out.put ⟨netZ P NB, NB, 0, (fi : Int)⟩
                          go_simp
                          refine hK.out _ _ (hSt5.st.x) (fun hHeld2 => ?_)
                          clear hK K hHeld
                          have hHeld := hHeld2
                          clear hHeld2
                          try simp only [Act.put, List.setIfInBounds_toArray, List.set_cons_zero, List.set_cons_succ]
                          refine wpAnyH_done (by kernel_rfl) ?_ _
                          refine NoPanic.normal ?_
                          go_wp2_with fail
                          go_meet
                          exact ⟨Z, rfl, Lib.hid hSt5⟩
            case evq356x11 =>
              go_simp
              refine hK.out _ _ (blk_alloc hHeld _) (fun hHeld2 => ?_)
              clear hK K hHeld
              have hHeld := hHeld2
              clear hHeld2
              try simp only [Act.put, List.setIfInBounds_toArray, List.set_cons_zero, List.set_cons_succ]
              have hlit := HLJ.out Wd1
              have hSt := Lib.hid (hSt.out.below (below_alloc Wd1 oLit8))
              obtain ⟨L, hL⟩ : ∃ L, Wd1.heap.size = L := ⟨_, rfl⟩
              obtain ⟨Wd2, hWn⟩ : ∃ Wn, Wd1.alloc oLit8 = Wn := ⟨_, rfl⟩
              rw [hWn] at hlit hSt hHeld ⊢
              rw [hL] at hlit ⊢
              clear hL hWn
              refine wpAnyH_ready (rs := [8]) (by kernel_rfl) (by simp) ?_
              refine (AllReadyH.cons (o := ⟨some 34, _, _, _, _, _⟩) rfl (fun K hK => ?evq370x8) AllReadyH.nil)
              case evq370x8 =>
                go_simp
                (go_at_call 11; refine (P2.out _).mono ?_; rintro e9 w9 ⟨rfl, rfl⟩)
                refine hK.out _ _ (hHeld) (fun hHeld2 => ?_)
                clear hK K hHeld
                have hHeld := hHeld2
                clear hHeld2
                try simp only [Act.put, List.setIfInBounds_toArray, List.set_cons_zero, List.set_cons_succ]
                first
                  | (refine wpAnyH_take (i := 9) (oi := ⟨some 35, _, _, _, _, _⟩) (v := ?vq371x9) rfl (by kernel_rfl) (by kernel_rfl) (by kernel_rfl) (fun _ _ _ h => h) (Or.inl ⟨by rfl, ?hyq371x9⟩) hHeld ?rrq371x9
                     case hyq371x9 => (intro w hSw; obtain ⟨c0, c1, c2, c3⟩ := rr_first hSw; clear hSw; go_simp; try with_reducible rfl))
                  | (refine wpAnyH_take (i := 9) (oi := ⟨some 35, _, _, _, _, _⟩) (v := undef) rfl (by kernel_rfl) (by kernel_rfl) (by kernel_rfl) (fun _ _ _ h => h) (Or.inr ⟨by rfl, rfl⟩) hHeld ?rrq371x9)
                try simp only [Act.put, List.setIfInBounds_toArray, List.set_cons_zero, List.set_cons_succ]
                first
                  | (refine wpAnyH_take (i := 10) (oi := ⟨some 36, _, _, _, _, _⟩) (v := ?vq371x10) rfl (by kernel_rfl) (by kernel_rfl) (by kernel_rfl) (fun _ _ _ h => h) (Or.inl ⟨by rfl, ?hyq371x10⟩) hHeld ?rrq371x10
                     case hyq371x10 => (intro w hSw; obtain ⟨c0, c1, c2, c3⟩ := rr_first hSw; clear hSw; go_simp; try with_reducible rfl))
                  | (refine wpAnyH_take (i := 10) (oi := ⟨some 36, _, _, _, _, _⟩) (v := undef) rfl (by kernel_rfl) (by kernel_rfl) (by kernel_rfl) (fun _ _ _ h => h) (Or.inr ⟨by rfl, rfl⟩) hHeld ?rrq371x10)
                try simp only [Act.put, List.setIfInBounds_toArray, List.set_cons_zero, List.set_cons_succ]
                refine wpAnyH_ready (rs := [14]) (by kernel_rfl) (by simp) ?_
                refine (AllReadyH.cons (o := ⟨some 40, _, _, _, _, _⟩) rfl (fun K hK => ?evq371x14) AllReadyH.nil)
                case evq371x14 =>
                  go_simp
                  (go_at_call 11; refine (P3.out _).mono ?_; rintro e9 w9 ⟨rfl, rfl⟩)
                  refine hK.out _ _ (hHeld) (fun hHeld2 => ?_)
                  clear hK K hHeld
                  have hHeld := hHeld2
                  clear hHeld2
                  try simp only [Act.put, List.setIfInBounds_toArray, List.set_cons_zero, List.set_cons_succ]
                  first
                    | (refine wpAnyH_take (i := 15) (oi := ⟨some 41, _, _, _, _, _⟩) (v := ?vq372x15) rfl (by kernel_rfl) (by kernel_rfl) (by kernel_rfl) (fun _ _ _ h => h) (Or.inl ⟨by rfl, ?hyq372x15⟩) hHeld ?rrq372x15
                       case hyq372x15 => (intro w hSw; obtain ⟨c0, c1, c2, c3⟩ := rr_first hSw; clear hSw; go_simp; try with_reducible rfl))
                    | (refine wpAnyH_take (i := 15) (oi := ⟨some 41, _, _, _, _, _⟩) (v := undef) rfl (by kernel_rfl) (by kernel_rfl) (by kernel_rfl) (fun _ _ _ h => h) (Or.inr ⟨by rfl, rfl⟩) hHeld ?rrq372x15)
                  try simp only [Act.put, List.setIfInBounds_toArray, List.set_cons_zero, List.set_cons_succ]
                  refine wpAnyH_ready (rs := [16]) (by kernel_rfl) (by simp) ?_
                  refine (AllReadyH.cons (o := ⟨some 42, _, _, _, _, _⟩) rfl (fun K hK => ?evq372x16) AllReadyH.nil)
                  case evq372x16 =>
                    go_simp
                    refine hK.out _ _ (hHeld) (fun hHeld2 => ?_)
                    clear hK K hHeld
                    have hHeld := hHeld2
                    clear hHeld2
                    try simp only [Act.put, List.setIfInBounds_toArray, List.set_cons_zero, List.set_cons_succ]
                    clear hlit
                    refine wpAnyH_ready (rs := [17]) (by kernel_rfl) (by simp) ?_
                    refine (AllReadyH.cons (o := ⟨some 43, _, _, _, _, _⟩) rfl (fun K hK => ?evq373x17) AllReadyH.nil)
                    case evq373x17 =>
                      go_simp
                      (go_at_call 23; refine (HN.out _).mono ?_; rintro e9 Wd3 ⟨rfl, hb9⟩)
                      refine hK.out _ _ (blk_below hHeld hb9 (blk_lt hHeld)) (fun hHeld2 => ?_)
                      clear hK K hHeld
                      have hHeld := hHeld2
                      clear hHeld2
                      try simp only [Act.put, List.setIfInBounds_toArray, List.set_cons_zero, List.set_cons_succ]
                      have hSt := Lib.hid (hSt.out.below hb9)
                      clear hb9
                      refine wpAnyH_ready (rs := [22]) (by kernel_rfl) (by simp) ?_
                      refine (AllReadyH.cons (o := ⟨some 48, _, _, _, _, _⟩) rfl (fun K hK => ?evq374x22) AllReadyH.nil)
                      case evq374x22 =>
                        go_simp
                        (go_at_call 11; refine (P4.out _).mono ?_; rintro e9 w9 ⟨rfl, rfl⟩)
                        refine hK.out _ _ (hHeld) (fun hHeld2 => ?_)
                        clear hK K hHeld
                        have hHeld := hHeld2
                        clear hHeld2
                        try simp only [Act.put, List.setIfInBounds_toArray, List.set_cons_zero, List.set_cons_succ]
                        first
                          | (refine wpAnyH_take (i := 23) (oi := ⟨some 49, _, _, _, _, _⟩) (v := ?vq375x23) rfl (by kernel_rfl) (by kernel_rfl) (by kernel_rfl) (fun _ _ _ h => h) (Or.inl ⟨by rfl, ?hyq375x23⟩) hHeld ?rrq375x23
                             case hyq375x23 => (intro w hSw; obtain ⟨c0, c1, c2, c3⟩ := rr_first hSw; clear hSw; go_simp; try with_reducible rfl))
                          | (refine wpAnyH_take (i := 23) (oi := ⟨some 49, _, _, _, _, _⟩) (v := undef) rfl (by kernel_rfl) (by kernel_rfl) (by kernel_rfl) (fun _ _ _ h => h) (Or.inr ⟨by rfl, rfl⟩) hHeld ?rrq375x23)
                        try simp only [Act.put, List.setIfInBounds_toArray, List.set_cons_zero, List.set_cons_succ]
                        refine wpAnyH_ready (rs := [25]) (by kernel_rfl) (by simp) ?_
                        refine (AllReadyH.cons (o := ⟨none, _, _, _, _, _⟩) rfl (fun K hK => ?evq375x25) AllReadyH.nil)
                        case evq375x25 =>
                          obtain ⟨s0, s1, s2, s3, t0, t1, t2, t3⟩ := rz_cells hSt.out
                          have hSt5 := hSt.out.put ⟨netZ P NB, NB, 0, (fi : Int)⟩
                          go_simp
                          refine hK.out _ _ (hSt5.st.x) (fun hHeld2 => ?_)
                          clear hK K hHeld
                          have hHeld := hHeld2
                          clear hHeld2
                          try simp only [Act.put, List.setIfInBounds_toArray, List.set_cons_zero, List.set_cons_succ]
                          refine wpAnyH_done (by kernel_rfl) ?_ _
                          refine NoPanic.normal ?_
                          go_wp2_with fail
                          go_meet
                          exact ⟨Z, rfl, Lib.hid hSt5⟩
          case evq355x11 =>
            go_simp
            refine hK.out _ _ (blk_alloc hHeld _) (fun hHeld2 => ?_)
            clear hK K hHeld
            have hHeld := hHeld2
            clear hHeld2
            try simp only [Act.put, List.setIfInBounds_toArray, List.set_cons_zero, List.set_cons_succ]
            have hlit := HLJ.out Wd1
            have hSt := Lib.hid (hSt.out.below (below_alloc Wd1 oLit8))
            obtain ⟨L, hL⟩ : ∃ L, Wd1.heap.size = L := ⟨_, rfl⟩
            obtain ⟨Wd2, hWn⟩ : ∃ Wn, Wd1.alloc oLit8 = Wn := ⟨_, rfl⟩
            rw [hWn] at hlit hSt hHeld ⊢
            rw [hL] at hlit ⊢
            clear hL hWn
            refine wpAnyH_ready (rs := [3]) (by kernel_rfl) (by simp) ?_
            refine (AllReadyH.cons (o := ⟨some 29, _, _, _, _, _⟩) rfl (fun K hK => ?evq377x3) AllReadyH.nil)
            case evq377x3 =>
              go_simp
              (go_at_call 11; refine (P1.out _).mono ?_; rintro e9 w9 ⟨rfl, rfl⟩)
              refine hK.out _ _ (hHeld) (fun hHeld2 => ?_)
              clear hK K hHeld
              have hHeld := hHeld2
              clear hHeld2
              try simp only [Act.put, List.setIfInBounds_toArray, List.set_cons_zero, List.set_cons_succ]
              first
                | (refine wpAnyH_take (i := 4) (oi := ⟨some 30, _, _, _, _, _⟩) (v := ?vq378x4) rfl (by kernel_rfl) (by kernel_rfl) (by kernel_rfl) (fun _ _ _ h => h) (Or.inl ⟨by rfl, ?hyq378x4⟩) hHeld ?rrq378x4
                   case hyq378x4 => (intro w hSw; obtain ⟨c0, c1, c2, c3⟩ := rr_first hSw; clear hSw; go_simp; try with_reducible rfl))
                | (refine wpAnyH_take (i := 4) (oi := ⟨some 30, _, _, _, _, _⟩) (v := undef) rfl (by kernel_rfl) (by kernel_rfl) (by kernel_rfl) (fun _ _ _ h => h) (Or.inr ⟨by rfl, rfl⟩) hHeld ?rrq378x4)
              try simp only [Act.put, List.setIfInBounds_toArray, List.set_cons_zero, List.set_cons_succ]
              first
                | (refine wpAnyH_take (i := 5) (oi := ⟨some 31, _, _, _, _, _⟩) (v := ?vq378x5) rfl (by kernel_rfl) (by kernel_rfl) (by kernel_rfl) (fun _ _ _ h => h) (Or.inl ⟨by rfl, ?hyq378x5⟩) hHeld ?rrq378x5
                   case hyq378x5 => (intro w hSw; obtain ⟨c0, c1, c2, c3⟩ := rr_first hSw; clear hSw; go_simp; try with_reducible rfl))
                | (refine wpAnyH_take (i := 5) (oi := ⟨some 31, _, _, _, _, _⟩) (v := undef) rfl (by kernel_rfl) (by kernel_rfl) (by kernel_rfl) (fun _ _ _ h => h) (Or.inr ⟨by rfl, rfl⟩) hHeld ?rrq378x5)
              try simp only [Act.put, List.setIfInBounds_toArray, List.set_cons_zero, List.set_cons_succ]
              refine wpAnyH_ready (rs := [8]) (by kernel_rfl) (by simp) ?_
              refine (AllReadyH.cons (o := ⟨some 34, _, _, _, _, _⟩) rfl (fun K hK => ?evq378x8) AllReadyH.nil)
              case evq378x8 =>
                go_simp
                (go_at_call 11; refine (P2.out _).mono ?_; rintro e9 w9 ⟨rfl, rfl⟩)
                refine hK.out _ _ (hHeld) (fun hHeld2 => ?_)
                clear hK K hHeld
                have hHeld := hHeld2
                clear hHeld2
                try simp only [Act.put, List.setIfInBounds_toArray, List.set_cons_zero, List.set_cons_succ]
                first
                  | (refine wpAnyH_take (i := 9) (oi := ⟨some 35, _, _, _, _, _⟩) (v := ?vq379x9) rfl (by kernel_rfl) (by kernel_rfl) (by kernel_rfl) (fun _ _ _ h => h) (Or.inl ⟨by rfl, ?hyq379x9⟩) hHeld ?rrq379x9
                     case hyq379x9 => (intro w hSw; obtain ⟨c0, c1, c2, c3⟩ := rr_first hSw; clear hSw; go_simp; try with_reducible rfl))
                  | (refine wpAnyH_take (i := 9) (oi := ⟨some 35, _, _, _, _, _⟩) (v := undef) rfl (by kernel_rfl) (by kernel_rfl) (by kernel_rfl) (fun _ _ _ h => h) (Or.inr ⟨by rfl, rfl⟩) hHeld ?rrq379x9)
                try simp only [Act.put, List.setIfInBounds_toArray, List.set_cons_zero, List.set_cons_succ]
                first
                  | (refine wpAnyH_take (i := 10) (oi := ⟨some 36, _, _, _, _, _⟩) (v := ?vq379x10) rfl (by kernel_rfl) (by kernel_rfl) (by kernel_rfl) (fun _ _ _ h => h) (Or.inl ⟨by rfl, ?hyq379x10⟩) hHeld ?rrq379x10
                     case hyq379x10 => (intro w hSw; obtain ⟨c0, c1, c2, c3⟩ := rr_first hSw; clear hSw; go_simp; try with_reducible rfl))
                  | (refine wpAnyH_take (i := 10) (oi := ⟨some 36, _, _, _, _, _⟩) (v := undef) rfl (by kernel_rfl) (by kernel_rfl) (by kernel_rfl) (fun _ _ _ h => h) (Or.inr ⟨by rfl, rfl⟩) hHeld ?rrq379x10)
                try simp only [Act.put, List.setIfInBounds_toArray, List.set_cons_zero, List.set_cons_succ]
                refine wpAnyH_ready (rs := [14]) (by kernel_rfl) (by simp) ?_
                refine (AllReadyH.cons (o := ⟨some 40, _, _, _, _, _⟩) rfl (fun K hK => ?evq379x14) AllReadyH.nil)
                case evq379x14 =>
                  go_simp
                  (go_at_call 11; refine (P3.out _).mono ?_; rintro e9 w9 ⟨rfl, rfl⟩)
                  refine hK.out _ _ (hHeld) (fun hHeld2 => ?_)
                  clear hK K hHeld
                  have hHeld := hHeld2
                  clear hHeld2
                  try simp only [Act.put, List.setIfInBounds_toArray, List.set_cons_zero, List.set_cons_succ]
                  first
                    | (refine wpAnyH_take (i := 15) (oi := ⟨some 41, _, _, _, _, _⟩) (v := ?vq380x15) rfl (by kernel_rfl) (by kernel_rfl) (by kernel_rfl) (fun _ _ _ h => h) (Or.inl ⟨by rfl, ?hyq380x15⟩) hHeld ?rrq380x15
                       case hyq380x15 => (intro w hSw; obtain ⟨c0, c1, c2, c3⟩ := rr_first hSw; clear hSw; go_simp; try with_reducible rfl))
                    | (refine wpAnyH_take (i := 15) (oi := ⟨some 41, _, _, _, _, _⟩) (v := undef) rfl (by kernel_rfl) (by kernel_rfl) (by kernel_rfl) (fun _ _ _ h => h) (Or.inr ⟨by rfl, rfl⟩) hHeld ?rrq380x15)
                  try simp only [Act.put, List.setIfInBounds_toArray, List.set_cons_zero, List.set_cons_succ]
                  refine wpAnyH_ready (rs := [16]) (by kernel_rfl) (by simp) ?_
                  refine (AllReadyH.cons (o := ⟨some 42, _, _, _, _, _⟩) rfl (fun K hK => ?evq380x16) AllReadyH.nil)
                  case evq380x16 =>
                    go_simp
                    refine hK.out _ _ (hHeld) (fun hHeld2 => ?_)
                    clear hK K hHeld
                    have hHeld := hHeld2
                    clear hHeld2
                    try simp only [Act.put, List.setIfInBounds_toArray, List.set_cons_zero, List.set_cons_succ]
                    clear hlit
                    refine wpAnyH_ready (rs := [17]) (by kernel_rfl) (by simp) ?_
                    refine (AllReadyH.cons (o := ⟨some 43, _, _, _, _, _⟩) rfl (fun K hK => ?evq381x17) AllReadyH.nil)
                    case evq381x17 =>
                      go_simp
                      (go_at_call 23; refine (HN.out _).mono ?_; rintro e9 Wd3 ⟨rfl, hb9⟩)
                      refine hK.out _ _ (blk_below hHeld hb9 (blk_lt hHeld)) (fun hHeld2 => ?_)
                      clear hK K hHeld
                      have hHeld := hHeld2
                      clear hHeld2
                      try simp only [Act.put, List.setIfInBounds_toArray, List.set_cons_zero, List.set_cons_succ]
                      have hSt := Lib.hid (hSt.out.below hb9)
                      clear hb9
                      refine wpAnyH_ready (rs := [22]) (by kernel_rfl) (by simp) ?_
                      refine (AllReadyH.cons (o := ⟨some 48, _, _, _, _, _⟩) rfl (fun K hK => ?evq382x22) AllReadyH.nil)
                      case evq382x22 =>
                        go_simp
                        (go_at_call 11; refine (P4.out _).mono ?_; rintro e9 w9 ⟨rfl, rfl⟩)
                        refine hK.out _ _ (hHeld) (fun hHeld2 => ?_)
                        clear hK K hHeld
                        have hHeld := hHeld2
                        clear hHeld2
                        try simp only [Act.put, List.setIfInBounds_toArray, List.set_cons_zero, List.set_cons_succ]
                        first
                          | (refine wpAnyH_take (i := 23) (oi := ⟨some 49, _, _, _, _, _⟩) (v := ?vq383x23) rfl (by kernel_rfl) (by kernel_rfl) (by kernel_rfl) (fun _ _ _ h => h) (Or.inl ⟨by rfl, ?hyq383x23⟩) hHeld ?rrq383x23
                             case hyq383x23 => (intro w hSw; obtain ⟨c0, c1, c2, c3⟩ := rr_first hSw; clear hSw; go_simp; try with_reducible rfl))
                          | (refine wpAnyH_take (i := 23) (oi := ⟨some 49, _, _, _, _, _⟩) (v := undef) rfl (by kernel_rfl) (by kernel_rfl) (by kernel_rfl) (fun _ _ _ h => h) (Or.inr ⟨by rfl, rfl⟩) hHeld ?rrq383x23)
                        try simp only [Act.put, List.setIfInBounds_toArray, List.set_cons_zero, List.set_cons_succ]
                        refine wpAnyH_ready (rs := [25]) (by kernel_rfl) (by simp) ?_
                        refine (AllReadyH.cons (o := ⟨none, _, _, _, _, _⟩) rfl (fun K hK => ?evq383x25) AllReadyH.nil)
                        case evq383x25 =>
                          obtain ⟨s0, s1, s2, s3, t0, t1, t2, t3⟩ := rz_cells hSt.out
                          have hSt5 := hSt.out.put ⟨netZ P NB, NB, 0, (fi : Int)⟩
                          go_simp
                          refine hK.out _ _ (hSt5.st.x) (fun hHeld2 => ?_)
                          clear hK K hHeld
                          have hHeld := hHeld2
                          clear hHeld2
                          try simp only [Act.put, List.setIfInBounds_toArray, List.set_cons_zero, List.set_cons_succ]
                          refine wpAnyH_done (by kernel_rfl) ?_ _
                          refine NoPanic.normal ?_
                          go_wp2_with fail
                          go_meet
                          exact ⟨Z, rfl, Lib.hid hSt5⟩
      case rest =>
        obtain ⟨Z, rfl, HZ⟩ := hcut
        clear HO HB P1 P2 P3 P4 HN HLJ HST0 u1 u2 u3 u4 u5 u6 u7 u8 k1 k2 q1 q2
        have HFc := HF.out.keep HZ.out.st.be
        obtain ⟨f, hfk, hin, g, hgp, hgl, d0, d1, d2, d3, d4⟩ := HFc.at fi hfim
        subst hgp
        obtain ⟨e0, e1, e2, e3, -⟩ := rz_cells HZ.out
        obtain ⟨f0, f1, f2, f3⟩ := rr_first HZ.out.st.x
        simp only at e0 e1 e2 e3
        have hgf := HGF.out.2 fi f hfk
        have hfa := hgf.addr_bd (by omega)
        have hfnb := hgf.2.2.2.1
        have hfna : 0 ≤ f.na ∧ f.na ≤ 184549375 := by
          have := netZ_bd (a := f.addr) (b := f.nb) (by omega) (by unfold okB; omega)
          rw [hgf.2.2.2.2.1]; omega
        have hfii : (fi : Int) < (m : Int) := by omega
        obtain ⟨mac, addr, na, nb, mtu⟩ := f
        simp only at d0 d1 d2 d3 d4 hfa hfnb hfna
        obtain ⟨S, hS, hS2⟩ : ∃ S : Int, (1 ≤ S ∧ S ≤ 256) ∧ S ≤ szZ nb ∧ (nb = 28 ∧ S = 16 ∨ (nb = 8 ∨ nb = 16 ∨ nb = 24) ∧ S = 256) := by
          rcases hfnb with rfl | rfl | rfl | rfl
          · exact ⟨256, by omega, by decide, .inr ⟨by omega, rfl⟩⟩
          · exact ⟨256, by omega, by decide, .inr ⟨by omega, rfl⟩⟩
          · exact ⟨256, by omega, by decide, .inr ⟨by omega, rfl⟩⟩
          · exact ⟨16, by omega, by decide, .inl ⟨rfl, rfl⟩⟩
        obtain ⟨hS2, hS3⟩ := hS2
        have PV := Lib.hid (pickQ_any xv S · HIV.out.1 HIV.out.2 (by omega) (by omega))
        have qv := pickQ_bd xv S (by omega)
        obtain ⟨q, hq⟩ : ∃ q, pickQ xv S = q := ⟨_, rfl⟩
        rw [hq] at PV qv
        clear hq
        have HGR : ∀ via : Int, (via = 0 ∨ ∃ q', 0 ≤ q' ∧ q' < szZ nb ∧ q' ≤ 16777216 ∧ via = na + q' ∧ locB fs via = false) → Hid (GoodR fs ⟨netZ P NB, NB, via, (fi : Int)⟩) := fun via hv => Lib.hid (good_route (f := ⟨mac, addr, na, nb, mtu⟩) HGF.out hfk HP.out.1 HP.out.2 HNB.out hv)
        have HI := fun w h => Lib.hid (risl_any fs (na + q) (.slice (some ⟨g, 0, none⟩) m c2) w h)
        have hgood := Lib.hid (HGR (na + q))
        have hgood0 := HGR 0 (.inl rfl)
        clear HGR hfk hin hgf HFc
        have HS2 := Lib.hid hS2
        have HFD : Hid (FsAt wc (.slice (some ⟨g, 0, none⟩) m c2) fs) := Lib.hid (HF.out.keep HZ.out.st.be)
        have u1 : wrap64 (na + q) = na + q := IntWalk.wrap64_in _ ⟨by omega, by omega⟩
        have u2 : IntKind.i64.wrap (na + q) = na + q := wrap_id (by omega) (by omega)
        clear hS2
        rcases hS3 with ⟨rfl, rfl⟩ | ⟨h3, rfl⟩
        rotate_left
        · rcases h3 with rfl | rfl | rfl
          · go_wp2_with fail
            go_quiet (first | (go_at_call 11; refine Calls.quiet_of_same ((PV.out _).mono fun _ _ ⟨h1, h2⟩ => ⟨h1, h2.symm⟩)))
            go_wp2_with fail
            refine (HI _ (HFD.out.keep (below_drewN (Below.refl _ _)))).out.mono ?_
            rintro e w5 ⟨rfl, rfl⟩
            have HZ5 := Lib.hid (HZ.out.drawN nq)
            clear e0 e1 e2 e3 f0 f1 f2 f3 d0 d1 d2 d3 d4
            obtain ⟨W5, hW5⟩ : ∃ W5, wc.drewN nq = W5 := ⟨_, rfl⟩
            rw [hW5] at HZ5 ⊢
            clear hW5
            obtain ⟨f0, f1, f2, f3⟩ := rr_first HZ5.out.st.x
            obtain ⟨e0, e1, e2, e3, t0, t1, t2, t3⟩ := rz_cells HZ5.out
            simp only at e0 e1 e2 e3
            generalize locI fs (na + q) = li
            obtain ⟨B, hB⟩ : ∃ B, locB fs (na + q) = B := ⟨_, rfl⟩
            rw [hB] at hgood ⊢
            clear hB
            by_cases h3v : xv.tmod 3 = 0
            · have h3a : (xv.tmod 3 == 0) = true := by simpa using h3v
              have h3b : (xv.tmod 3 != 0) = false := by simpa using h3v
              have HGR := hgood0
              clear h3v
              obtain ⟨i0, hi, hz0, hz1, hz2⟩ := info_parts infoR
              have hSt6 := Lib.hid (HZ5.out.st.below (below_alloc _ (ro ⟨netZ P NB, NB, 0, (fi : Int)⟩)))
              go_wp2_with (at_builtin; refine wpList_append_own _ rfl (.tmp 87) (.tmp 89) 33 rfl w.heap.size 29 i0 (.agg #[.int .i64 0, .int .i64 0, .int .i64 0, .int .i64 0]) 4 32 Try.underlying33 hi hz0 hz1 hz2 rfl (by decide) (.slice vp k vc) k _ rfl hSt6.out.row ⟨_, 0, none⟩ 1 1 (rcl ⟨netZ P NB, NB, 0, (fi : Int)⟩) rfl rfl ?c1 ?c2 (by unfold maxLen; omega) (by omega) ?c5 ?_)
              case c1 =>
                intro j u hj
                exact World.news_of_block (by first | exact blk_new _ _ | (have h9 := blk_new (W5.setCell ⟨Z, 2, none⟩ (.int .i64 (na + q))) (ro ⟨netZ P NB, NB, na + q, (fi : Int)⟩); rw [World.size_setCell] at h9; exact h9)) j u hj
              case c2 => intro u hu; simp at hu; rcases hu with rfl | rfl | rfl | rfl <;> rfl
              case c5 => exact hSt6.out.be.size
              · intro v' w6 hown' hgrow _
                obtain ⟨hx6, hb6⟩ := hSt6.out.app hgrow
                go_wp2_with fail
                go_roundw
                case rel => exact ⟨k + 1, rs ++ [⟨netZ P NB, NB, 0, (fi : Int)⟩], by omega, by omega, by go_num, by rw [List.length_append, HLen.out]; rfl, by rw [flatR_snoc]; exact hown', HG.out.snoc HLen.out (by omega) HGR.out, hb6⟩
                case measure => simp [intOf]; omega
            · have h3a : (xv.tmod 3 == 0) = false := by simpa using h3v
              have h3b : (xv.tmod 3 != 0) = true := by simpa using h3v
              clear h3v
              cases B
              · have HGR := hgood.out (.inr ⟨q, qv.1, by have := HS2.out; omega, by omega, rfl, rfl⟩)
                have HZ6 := Lib.hid (HZ5.out.via (na + q))
                obtain ⟨m0, m1, m2, m3, -⟩ := rz_cells HZ6.out
                simp only at m0 m1 m2 m3
                obtain ⟨i0, hi, hz0, hz1, hz2⟩ := info_parts infoR
                have hSt6 := Lib.hid (HZ6.out.st.below (below_alloc _ (ro ⟨netZ P NB, NB, na + q, (fi : Int)⟩)))
                go_wp2_with (at_builtin; refine wpList_append_own _ rfl (.tmp 87) (.tmp 89) 33 rfl w.heap.size 29 i0 (.agg #[.int .i64 0, .int .i64 0, .int .i64 0, .int .i64 0]) 4 32 Try.underlying33 hi hz0 hz1 hz2 rfl (by decide) (.slice vp k vc) k _ rfl hSt6.out.row ⟨_, 0, none⟩ 1 1 (rcl ⟨netZ P NB, NB, na + q, (fi : Int)⟩) rfl rfl ?c1 ?c2 (by unfold maxLen; omega) (by omega) ?c5 ?_)
                case c1 =>
                  intro j u hj
                  exact World.news_of_block (by first | exact blk_new _ _ | (have h9 := blk_new (W5.setCell ⟨Z, 2, none⟩ (.int .i64 (na + q))) (ro ⟨netZ P NB, NB, na + q, (fi : Int)⟩); rw [World.size_setCell] at h9; exact h9)) j u hj
                case c2 => intro u hu; simp at hu; rcases hu with rfl | rfl | rfl | rfl <;> rfl
                case c5 => exact hSt6.out.be.size
                · intro v' w6 hown' hgrow _
                  obtain ⟨hx6, hb6⟩ := hSt6.out.app hgrow
                  go_wp2_with fail
                  go_roundw
                  case rel => exact ⟨k + 1, rs ++ [⟨netZ P NB, NB, na + q, (fi : Int)⟩], by omega, by omega, by go_num, by rw [List.length_append, HLen.out]; rfl, by rw [flatR_snoc]; exact hown', HG.out.snoc HLen.out (by omega) HGR.out, hb6⟩
                  case measure => simp [intOf]; omega
              · have HGR := hgood0
                obtain ⟨i0, hi, hz0, hz1, hz2⟩ := info_parts infoR
                have hSt6 := Lib.hid (HZ5.out.st.below (below_alloc _ (ro ⟨netZ P NB, NB, 0, (fi : Int)⟩)))
                go_wp2_with (at_builtin; refine wpList_append_own _ rfl (.tmp 87) (.tmp 89) 33 rfl w.heap.size 29 i0 (.agg #[.int .i64 0, .int .i64 0, .int .i64 0, .int .i64 0]) 4 32 Try.underlying33 hi hz0 hz1 hz2 rfl (by decide) (.slice vp k vc) k _ rfl hSt6.out.row ⟨_, 0, none⟩ 1 1 (rcl ⟨netZ P NB, NB, 0, (fi : Int)⟩) rfl rfl ?c1 ?c2 (by unfold maxLen; omega) (by omega) ?c5 ?_)
                case c1 =>
                  intro j u hj
                  exact World.news_of_block (by first | exact blk_new _ _ | (have h9 := blk_new (W5.setCell ⟨Z, 2, none⟩ (.int .i64 (na + q))) (ro ⟨netZ P NB, NB, na + q, (fi : Int)⟩); rw [World.size_setCell] at h9; exact h9)) j u hj
                case c2 => intro u hu; simp at hu; rcases hu with rfl | rfl | rfl | rfl <;> rfl
                case c5 => exact hSt6.out.be.size
                · intro v' w6 hown' hgrow _
                  obtain ⟨hx6, hb6⟩ := hSt6.out.app hgrow
                  go_wp2_with fail
                  go_roundw
                  case rel => exact ⟨k + 1, rs ++ [⟨netZ P NB, NB, 0, (fi : Int)⟩], by omega, by omega, by go_num, by rw [List.length_append, HLen.out]; rfl, by rw [flatR_snoc]; exact hown', HG.out.snoc HLen.out (by omega) HGR.out, hb6⟩
                  case measure => simp [intOf]; omega
          · go_wp2_with fail
            go_quiet (first | (go_at_call 11; refine Calls.quiet_of_same ((PV.out _).mono fun _ _ ⟨h1, h2⟩ => ⟨h1, h2.symm⟩)))
            go_wp2_with fail
            refine (HI _ (HFD.out.keep (below_drewN (Below.refl _ _)))).out.mono ?_
            rintro e w5 ⟨rfl, rfl⟩
            have HZ5 := Lib.hid (HZ.out.drawN nq)
            clear e0 e1 e2 e3 f0 f1 f2 f3 d0 d1 d2 d3 d4
            obtain ⟨W5, hW5⟩ : ∃ W5, wc.drewN nq = W5 := ⟨_, rfl⟩
            rw [hW5] at HZ5 ⊢
            clear hW5
            obtain ⟨f0, f1, f2, f3⟩ := rr_first HZ5.out.st.x
            obtain ⟨e0, e1, e2, e3, t0, t1, t2, t3⟩ := rz_cells HZ5.out
            simp only at e0 e1 e2 e3
            generalize locI fs (na + q) = li
            obtain ⟨B, hB⟩ : ∃ B, locB fs (na + q) = B := ⟨_, rfl⟩
            rw [hB] at hgood ⊢
            clear hB
            by_cases h3v : xv.tmod 3 = 0
            · have h3a : (xv.tmod 3 == 0) = true := by simpa using h3v
              have h3b : (xv.tmod 3 != 0) = false := by simpa using h3v
              have HGR := hgood0
              clear h3v
              obtain ⟨i0, hi, hz0, hz1, hz2⟩ := info_parts infoR
              have hSt6 := Lib.hid (HZ5.out.st.below (below_alloc _ (ro ⟨netZ P NB, NB, 0, (fi : Int)⟩)))
              go_wp2_with (at_builtin; refine wpList_append_own _ rfl (.tmp 87) (.tmp 89) 33 rfl w.heap.size 29 i0 (.agg #[.int .i64 0, .int .i64 0, .int .i64 0, .int .i64 0]) 4 32 Try.underlying33 hi hz0 hz1 hz2 rfl (by decide) (.slice vp k vc) k _ rfl hSt6.out.row ⟨_, 0, none⟩ 1 1 (rcl ⟨netZ P NB, NB, 0, (fi : Int)⟩) rfl rfl ?c1 ?c2 (by unfold maxLen; omega) (by omega) ?c5 ?_)
              case c1 =>
                intro j u hj
                exact World.news_of_block (by first | exact blk_new _ _ | (have h9 := blk_new (W5.setCell ⟨Z, 2, none⟩ (.int .i64 (na + q))) (ro ⟨netZ P NB, NB, na + q, (fi : Int)⟩); rw [World.size_setCell] at h9; exact h9)) j u hj
              case c2 => intro u hu; simp at hu; rcases hu with rfl | rfl | rfl | rfl <;> rfl
              case c5 => exact hSt6.out.be.size
              · intro v' w6 hown' hgrow _
                obtain ⟨hx6, hb6⟩ := hSt6.out.app hgrow
                go_wp2_with fail
                go_roundw
                case rel => exact ⟨k + 1, rs ++ [⟨netZ P NB, NB, 0, (fi : Int)⟩], by omega, by omega, by go_num, by rw [List.length_append, HLen.out]; rfl, by rw [flatR_snoc]; exact hown', HG.out.snoc HLen.out (by omega) HGR.out, hb6⟩
                case measure => simp [intOf]; omega
            · have h3a : (xv.tmod 3 == 0) = false := by simpa using h3v
              have h3b : (xv.tmod 3 != 0) = true := by simpa using h3v
              clear h3v
              cases B
              · have HGR := hgood.out (.inr ⟨q, qv.1, by have := HS2.out; omega, by omega, rfl, rfl⟩)
                have HZ6 := Lib.hid (HZ5.out.via (na + q))
                obtain ⟨m0, m1, m2, m3, -⟩ := rz_cells HZ6.out
                simp only at m0 m1 m2 m3
                obtain ⟨i0, hi, hz0, hz1, hz2⟩ := info_parts infoR
                have hSt6 := Lib.hid (HZ6.out.st.below (below_alloc _ (ro ⟨netZ P NB, NB, na + q, (fi : Int)⟩)))
                go_wp2_with (at_builtin; refine wpList_append_own _ rfl (.tmp 87) (.tmp 89) 33 rfl w.heap.size 29 i0 (.agg #[.int .i64 0, .int .i64 0, .int .i64 0, .int .i64 0]) 4 32 Try.underlying33 hi hz0 hz1 hz2 rfl (by decide) (.slice vp k vc) k _ rfl hSt6.out.row ⟨_, 0, none⟩ 1 1 (rcl ⟨netZ P NB, NB, na + q, (fi : Int)⟩) rfl rfl ?c1 ?c2 (by unfold maxLen; omega) (by omega) ?c5 ?_)
                case c1 =>
                  intro j u hj
                  exact World.news_of_block (by first | exact blk_new _ _ | (have h9 := blk_new (W5.setCell ⟨Z, 2, none⟩ (.int .i64 (na + q))) (ro ⟨netZ P NB, NB, na + q, (fi : Int)⟩); rw [World.size_setCell] at h9; exact h9)) j u hj
                case c2 => intro u hu; simp at hu; rcases hu with rfl | rfl | rfl | rfl <;> rfl
                case c5 => exact hSt6.out.be.size
                · intro v' w6 hown' hgrow _
                  obtain ⟨hx6, hb6⟩ := hSt6.out.app hgrow
                  go_wp2_with fail
                  go_roundw
                  case rel => exact ⟨k + 1, rs ++ [⟨netZ P NB, NB, na + q, (fi : Int)⟩], by omega, by omega, by go_num, by rw [List.length_append, HLen.out]; rfl, by rw [flatR_snoc]; exact hown', HG.out.snoc HLen.out (by omega) HGR.out, hb6⟩
                  case measure => simp [intOf]; omega
              · have HGR := hgood0
                obtain ⟨i0, hi, hz0, hz1, hz2⟩ := info_parts infoR
                have hSt6 := Lib.hid (HZ5.out.st.below (below_alloc _ (ro ⟨netZ P NB, NB, 0, (fi : Int)⟩)))
                go_wp2_with (at_builtin; refine wpList_append_own _ rfl (.tmp 87) (.tmp 89) 33 rfl w.heap.size 29 i0 (.agg #[.int .i64 0, .int .i64 0, .int .i64 0, .int .i64 0]) 4 32 Try.underlying33 hi hz0 hz1 hz2 rfl (by decide) (.slice vp k vc) k _ rfl hSt6.out.row ⟨_, 0, none⟩ 1 1 (rcl ⟨netZ P NB, NB, 0, (fi : Int)⟩) rfl rfl ?c1 ?c2 (by unfold maxLen; omega) (by omega) ?c5 ?_)
                case c1 =>
                  intro j u hj
                  exact World.news_of_block (by first | exact blk_new _ _ | (have h9 := blk_new (W5.setCell ⟨Z, 2, none⟩ (.int .i64 (na + q))) (ro ⟨netZ P NB, NB, na + q, (fi : Int)⟩); rw [World.size_setCell] at h9; exact h9)) j u hj
                case c2 => intro u hu; simp at hu; rcases hu with rfl | rfl | rfl | rfl <;> rfl
                case c5 => exact hSt6.out.be.size
                · intro v' w6 hown' hgrow _
                  obtain ⟨hx6, hb6⟩ := hSt6.out.app hgrow
                  go_wp2_with fail
                  go_roundw
                  case rel => exact ⟨k + 1, rs ++ [⟨netZ P NB, NB, 0, (fi : Int)⟩], by omega, by omega, by go_num, by rw [List.length_append, HLen.out]; rfl, by rw [flatR_snoc]; exact hown', HG.out.snoc HLen.out (by omega) HGR.out, hb6⟩
                  case measure => simp [intOf]; omega
          · go_wp2_with fail
            go_quiet (first | (go_at_call 11; refine Calls.quiet_of_same ((PV.out _).mono fun _ _ ⟨h1, h2⟩ => ⟨h1, h2.symm⟩)))
            go_wp2_with fail
            refine (HI _ (HFD.out.keep (below_drewN (Below.refl _ _)))).out.mono ?_
            rintro e w5 ⟨rfl, rfl⟩
            have HZ5 := Lib.hid (HZ.out.drawN nq)
            clear e0 e1 e2 e3 f0 f1 f2 f3 d0 d1 d2 d3 d4
            obtain ⟨W5, hW5⟩ : ∃ W5, wc.drewN nq = W5 := ⟨_, rfl⟩
            rw [hW5] at HZ5 ⊢
            clear hW5
            obtain ⟨f0, f1, f2, f3⟩ := rr_first HZ5.out.st.x
            obtain ⟨e0, e1, e2, e3, t0, t1, t2, t3⟩ := rz_cells HZ5.out
            simp only at e0 e1 e2 e3
            generalize locI fs (na + q) = li
            obtain ⟨B, hB⟩ : ∃ B, locB fs (na + q) = B := ⟨_, rfl⟩
            rw [hB] at hgood ⊢
            clear hB
            by_cases h3v : xv.tmod 3 = 0
            · have h3a : (xv.tmod 3 == 0) = true := by simpa using h3v
              have h3b : (xv.tmod 3 != 0) = false := by simpa using h3v
              have HGR := hgood0
              clear h3v
              obtain ⟨i0, hi, hz0, hz1, hz2⟩ := info_parts infoR
              have hSt6 := Lib.hid (HZ5.out.st.below (below_alloc _ (ro ⟨netZ P NB, NB, 0, (fi : Int)⟩)))
              go_wp2_with (at_builtin; refine wpList_append_own _ rfl (.tmp 87) (.tmp 89) 33 rfl w.heap.size 29 i0 (.agg #[.int .i64 0, .int .i64 0, .int .i64 0, .int .i64 0]) 4 32 Try.underlying33 hi hz0 hz1 hz2 rfl (by decide) (.slice vp k vc) k _ rfl hSt6.out.row ⟨_, 0, none⟩ 1 1 (rcl ⟨netZ P NB, NB, 0, (fi : Int)⟩) rfl rfl ?c1 ?c2 (by unfold maxLen; omega) (by omega) ?c5 ?_)
              case c1 =>
                intro j u hj
                exact World.news_of_block (by first | exact blk_new _ _ | (have h9 := blk_new (W5.setCell ⟨Z, 2, none⟩ (.int .i64 (na + q))) (ro ⟨netZ P NB, NB, na + q, (fi : Int)⟩); rw [World.size_setCell] at h9; exact h9)) j u hj
              case c2 => intro u hu; simp at hu; rcases hu with rfl | rfl | rfl | rfl <;> rfl
              case c5 => exact hSt6.out.be.size
              · intro v' w6 hown' hgrow _
                obtain ⟨hx6, hb6⟩ := hSt6.out.app hgrow
                go_wp2_with fail
                go_roundw
                case rel => exact ⟨k + 1, rs ++ [⟨netZ P NB, NB, 0, (fi : Int)⟩], by omega, by omega, by go_num, by rw [List.length_append, HLen.out]; rfl, by rw [flatR_snoc]; exact hown', HG.out.snoc HLen.out (by omega) HGR.out, hb6⟩
                case measure => simp [intOf]; omega
            · have h3a : (xv.tmod 3 == 0) = false := by simpa using h3v
              have h3b : (xv.tmod 3 != 0) = true := by simpa using h3v
              clear h3v
              cases B
              · have HGR := hgood.out (.inr ⟨q, qv.1, by have := HS2.out; omega, by omega, rfl, rfl⟩)
                have HZ6 := Lib.hid (HZ5.out.via (na + q))
                obtain ⟨m0, m1, m2, m3, -⟩ := rz_cells HZ6.out
                simp only at m0 m1 m2 m3
                obtain ⟨i0, hi, hz0, hz1, hz2⟩ := info_parts infoR
                have hSt6 := Lib.hid (HZ6.out.st.below (below_alloc _ (ro ⟨netZ P NB, NB, na + q, (fi : Int)⟩)))
                go_wp2_with (at_builtin; refine wpList_append_own _ rfl (.tmp 87) (.tmp 89) 33 rfl w.heap.size 29 i0 (.agg #[.int .i64 0, .int .i64 0, .int .i64 0, .int .i64 0]) 4 32 Try.underlying33 hi hz0 hz1 hz2 rfl (by decide) (.slice vp k vc) k _ rfl hSt6.out.row ⟨_, 0, none⟩ 1 1 (rcl ⟨netZ P NB, NB, na + q, (fi : Int)⟩) rfl rfl ?c1 ?c2 (by unfold maxLen; omega) (by omega) ?c5 ?_)
                case c1 =>
                  intro j u hj
                  exact World.news_of_block (by first | exact blk_new _ _ | (have h9 := blk_new (W5.setCell ⟨Z, 2, none⟩ (.int .i64 (na + q))) (ro ⟨netZ P NB, NB, na + q, (fi : Int)⟩); rw [World.size_setCell] at h9; exact h9)) j u hj
                case c2 => intro u hu; simp at hu; rcases hu with rfl | rfl | rfl | rfl <;> rfl
                case c5 => exact hSt6.out.be.size
                · intro v' w6 hown' hgrow _
                  obtain ⟨hx6, hb6⟩ := hSt6.out.app hgrow
                  go_wp2_with fail
                  go_roundw
                  case rel => exact ⟨k + 1, rs ++ [⟨netZ P NB, NB, na + q, (fi : Int)⟩], by omega, by omega, by go_num, by rw [List.length_append, HLen.out]; rfl, by rw [flatR_snoc]; exact hown', HG.out.snoc HLen.out (by omega) HGR.out, hb6⟩
                  case measure => simp [intOf]; omega
              · have HGR := hgood0
                obtain ⟨i0, hi, hz0, hz1, hz2⟩ := info_parts infoR
                have hSt6 := Lib.hid (HZ5.out.st.below (below_alloc _ (ro ⟨netZ P NB, NB, 0, (fi : Int)⟩)))
                go_wp2_with (at_builtin; refine wpList_append_own _ rfl (.tmp 87) (.tmp 89) 33 rfl w.heap.size 29 i0 (.agg #[.int .i64 0, .int .i64 0, .int .i64 0, .int .i64 0]) 4 32 Try.underlying33 hi hz0 hz1 hz2 rfl (by decide) (.slice vp k vc) k _ rfl hSt6.out.row ⟨_, 0, none⟩ 1 1 (rcl ⟨netZ P NB, NB, 0, (fi : Int)⟩) rfl rfl ?c1 ?c2 (by unfold maxLen; omega) (by omega) ?c5 ?_)
                case c1 =>
                  intro j u hj
                  exact World.news_of_block (by first | exact blk_new _ _ | (have h9 := blk_new (W5.setCell ⟨Z, 2, none⟩ (.int .i64 (na + q))) (ro ⟨netZ P NB, NB, na + q, (fi : Int)⟩); rw [World.size_setCell] at h9; exact h9)) j u hj
                case c2 => intro u hu; simp at hu; rcases hu with rfl | rfl | rfl | rfl <;> rfl
                case c5 => exact hSt6.out.be.size
                · intro v' w6 hown' hgrow _
                  obtain ⟨hx6, hb6⟩ := hSt6.out.app hgrow
                  go_wp2_with fail
                  go_roundw
                  case rel => exact ⟨k + 1, rs ++ [⟨netZ P NB, NB, 0, (fi : Int)⟩], by omega, by omega, by go_num, by rw [List.length_append, HLen.out]; rfl, by rw [flatR_snoc]; exact hown', HG.out.snoc HLen.out (by omega) HGR.out, hb6⟩
                  case measure => simp [intOf]; omega
        · go_wp2_with fail
          go_quiet (first | (go_at_call 11; refine Calls.quiet_of_same ((PV.out _).mono fun _ _ ⟨h1, h2⟩ => ⟨h1, h2.symm⟩)))
          go_wp2_with fail
          refine (HI _ (HFD.out.keep (below_drewN (Below.refl _ _)))).out.mono ?_
          rintro e w5 ⟨rfl, rfl⟩
          have HZ5 := Lib.hid (HZ.out.drawN nq)
          clear e0 e1 e2 e3 f0 f1 f2 f3 d0 d1 d2 d3 d4
          obtain ⟨W5, hW5⟩ : ∃ W5, wc.drewN nq = W5 := ⟨_, rfl⟩
          rw [hW5] at HZ5 ⊢
          clear hW5
          obtain ⟨f0, f1, f2, f3⟩ := rr_first HZ5.out.st.x
          obtain ⟨e0, e1, e2, e3, t0, t1, t2, t3⟩ := rz_cells HZ5.out
          simp only at e0 e1 e2 e3
          generalize locI fs (na + q) = li
          obtain ⟨B, hB⟩ : ∃ B, locB fs (na + q) = B := ⟨_, rfl⟩
          rw [hB] at hgood ⊢
          clear hB
          by_cases h3v : xv.tmod 3 = 0
          · have h3a : (xv.tmod 3 == 0) = true := by simpa using h3v
            have h3b : (xv.tmod 3 != 0) = false := by simpa using h3v
            have HGR := hgood0
            clear h3v
            obtain ⟨i0, hi, hz0, hz1, hz2⟩ := info_parts infoR
            have hSt6 := Lib.hid (HZ5.out.st.below (below_alloc _ (ro ⟨netZ P NB, NB, 0, (fi : Int)⟩)))
            go_wp2_with (at_builtin; refine wpList_append_own _ rfl (.tmp 87) (.tmp 89) 33 rfl w.heap.size 29 i0 (.agg #[.int .i64 0, .int .i64 0, .int .i64 0, .int .i64 0]) 4 32 Try.underlying33 hi hz0 hz1 hz2 rfl (by decide) (.slice vp k vc) k _ rfl hSt6.out.row ⟨_, 0, none⟩ 1 1 (rcl ⟨netZ P NB, NB, 0, (fi : Int)⟩) rfl rfl ?c1 ?c2 (by unfold maxLen; omega) (by omega) ?c5 ?_)
            case c1 =>
              intro j u hj
              exact World.news_of_block (by first | exact blk_new _ _ | (have h9 := blk_new (W5.setCell ⟨Z, 2, none⟩ (.int .i64 (na + q))) (ro ⟨netZ P NB, NB, na + q, (fi : Int)⟩); rw [World.size_setCell] at h9; exact h9)) j u hj
            case c2 => intro u hu; simp at hu; rcases hu with rfl | rfl | rfl | rfl <;> rfl
            case c5 => exact hSt6.out.be.size
            · intro v' w6 hown' hgrow _
              obtain ⟨hx6, hb6⟩ := hSt6.out.app hgrow
              go_wp2_with fail
              go_roundw
              case rel => exact ⟨k + 1, rs ++ [⟨netZ P NB, NB, 0, (fi : Int)⟩], by omega, by omega, by go_num, by rw [List.length_append, HLen.out]; rfl, by rw [flatR_snoc]; exact hown', HG.out.snoc HLen.out (by omega) HGR.out, hb6⟩
              case measure => simp [intOf]; omega
          · have h3a : (xv.tmod 3 == 0) = false := by simpa using h3v
            have h3b : (xv.tmod 3 != 0) = true := by simpa using h3v
            clear h3v
            cases B
            · have HGR := hgood.out (.inr ⟨q, qv.1, by have := HS2.out; omega, by omega, rfl, rfl⟩)
              have HZ6 := Lib.hid (HZ5.out.via (na + q))
              obtain ⟨m0, m1, m2, m3, -⟩ := rz_cells HZ6.out
              simp only at m0 m1 m2 m3
              obtain ⟨i0, hi, hz0, hz1, hz2⟩ := info_parts infoR
              have hSt6 := Lib.hid (HZ6.out.st.below (below_alloc _ (ro ⟨netZ P NB, NB, na + q, (fi : Int)⟩)))
              go_wp2_with (at_builtin; refine wpList_append_own _ rfl (.tmp 87) (.tmp 89) 33 rfl w.heap.size 29 i0 (.agg #[.int .i64 0, .int .i64 0, .int .i64 0, .int .i64 0]) 4 32 Try.underlying33 hi hz0 hz1 hz2 rfl (by decide) (.slice vp k vc) k _ rfl hSt6.out.row ⟨_, 0, none⟩ 1 1 (rcl ⟨netZ P NB, NB, na + q, (fi : Int)⟩) rfl rfl ?c1 ?c2 (by unfold maxLen; omega) (by omega) ?c5 ?_)
              case c1 =>
                intro j u hj
                exact World.news_of_block (by first | exact blk_new _ _ | (have h9 := blk_new (W5.setCell ⟨Z, 2, none⟩ (.int .i64 (na + q))) (ro ⟨netZ P NB, NB, na + q, (fi : Int)⟩); rw [World.size_setCell] at h9; exact h9)) j u hj
              case c2 => intro u hu; simp at hu; rcases hu with rfl | rfl | rfl | rfl <;> rfl
              case c5 => exact hSt6.out.be.size
              · intro v' w6 hown' hgrow _
                obtain ⟨hx6, hb6⟩ := hSt6.out.app hgrow
                go_wp2_with fail
                go_roundw
                case rel => exact ⟨k + 1, rs ++ [⟨netZ P NB, NB, na + q, (fi : Int)⟩], by omega, by omega, by go_num, by rw [List.length_append, HLen.out]; rfl, by rw [flatR_snoc]; exact hown', HG.out.snoc HLen.out (by omega) HGR.out, hb6⟩
                case measure => simp [intOf]; omega
            · have HGR := hgood0
              obtain ⟨i0, hi, hz0, hz1, hz2⟩ := info_parts infoR
              have hSt6 := Lib.hid (HZ5.out.st.below (below_alloc _ (ro ⟨netZ P NB, NB, 0, (fi : Int)⟩)))
              go_wp2_with (at_builtin; refine wpList_append_own _ rfl (.tmp 87) (.tmp 89) 33 rfl w.heap.size 29 i0 (.agg #[.int .i64 0, .int .i64 0, .int .i64 0, .int .i64 0]) 4 32 Try.underlying33 hi hz0 hz1 hz2 rfl (by decide) (.slice vp k vc) k _ rfl hSt6.out.row ⟨_, 0, none⟩ 1 1 (rcl ⟨netZ P NB, NB, 0, (fi : Int)⟩) rfl rfl ?c1 ?c2 (by unfold maxLen; omega) (by omega) ?c5 ?_)
              case c1 =>
                intro j u hj
                exact World.news_of_block (by first | exact blk_new _ _ | (have h9 := blk_new (W5.setCell ⟨Z, 2, none⟩ (.int .i64 (na + q))) (ro ⟨netZ P NB, NB, na + q, (fi : Int)⟩); rw [World.size_setCell] at h9; exact h9)) j u hj
              case c2 => intro u hu; simp at hu; rcases hu with rfl | rfl | rfl | rfl <;> rfl
              case c5 => exact hSt6.out.be.size
              · intro v' w6 hown' hgrow _
                obtain ⟨hx6, hb6⟩ := hSt6.out.app hgrow
                go_wp2_with fail
                go_roundw
                case rel => exact ⟨k + 1, rs ++ [⟨netZ P NB, NB, 0, (fi : Int)⟩], by omega, by omega, by go_num, by rw [List.length_append, HLen.out]; rfl, by rw [flatR_snoc]; exact hown', HG.out.snoc HLen.out (by omega) HGR.out, hb6⟩
                case measure => simp [intOf]; omega
    · have hfin := Lib.hid (RsAt.of_row HO.out hlen (by omega) (fun r hr => (HG.out.2 r hr).2.2.2))
      clear hlen
      by_cases hk1 : k < n
      · have : k = 8 := by omega
        subst this
        have hki : ((8 : Nat) : Int) < (n : Int) := by omega
        go_wp2_with fail
        go_ret
        exact ⟨⟨_, rs, rfl, hfin.out, HG.out, sls_row HO.out⟩, HB.out⟩
      · have hki : ((k : Int) < (n : Int)) = False := eq_false (by omega)
        go_wp2_with fail
        go_ret
        exact ⟨⟨_, rs, rfl, hfin.out, HG.out, sls_row HO.out⟩, HB.out⟩
end Go.Proofs.Ytgfcpimklmgnbaa

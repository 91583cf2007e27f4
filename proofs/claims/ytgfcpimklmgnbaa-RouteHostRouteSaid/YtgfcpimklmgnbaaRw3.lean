/- The walk of RouteHostRoute. -/
import Derived.Test.YtgfcpimklmgnbaaRoS
import Derived.Test.YtgfcpimklmgnbaaRoT
import Derived.Deep.CutRange
import Derived.Deep.DeepCutAuto
namespace Go.Proofs.Ytgfcpimklmgnbaa
open Go.RowKit Go.Shelf
set_option linter.unusedVariables false
attribute [local go_sem] Oper.semAt_some

theorem sz_cases {f : Fc} {i : Nat} (h : GoodF i f) : ∃ S : Int, szZ f.nb = S ∧ 1 ≤ S ∧ S ≤ 16777216 ∧ ((f.nb = 8 ∧ S = 16777216) ∨ (f.nb = 16 ∧ S = 65536) ∨ (f.nb = 24 ∧ S = 256) ∨ (f.nb = 28 ∧ S = 16)) := by
  rcases h.2.2.2.1 with e | e | e | e
  · exact ⟨16777216, by rw [e]; decide, by decide, by decide, .inl ⟨e, rfl⟩⟩
  · exact ⟨65536, by rw [e]; decide, by decide, by decide, .inr (.inl ⟨e, rfl⟩)⟩
  · exact ⟨256, by rw [e]; decide, by decide, by decide, .inr (.inr (.inl ⟨e, rfl⟩))⟩
  · exact ⟨16, by rw [e]; decide, by decide, by decide, .inr (.inr (.inr ⟨e, rfl⟩))⟩

theorem RsAt.shp {w : World} {v : Value} {rs : List Ro} (h : RsAt w v rs) (hs : SlS v) : (v = .slice none 0 0 ∧ rs = []) ∨ ∃ g n c, v = .slice (some ⟨g, 0, none⟩) n c ∧ rs.length = n := by
  obtain ⟨-, p, c, he, -⟩ := h
  rcases hs with rfl | ⟨g, n, c', rfl⟩
  · simp only [Value.slice.injEq] at he
    exact .inl ⟨rfl, List.eq_nil_of_length_eq_zero he.2.1.symm⟩
  · simp only [Value.slice.injEq] at he
    exact .inr ⟨g, _, _, rfl, he.2.1.symm⟩
theorem SlS.slice {v : Value} (h : SlS v) : ∃ p n c, v = .slice p n c := by
  rcases h with rfl | ⟨g, n, c, rfl⟩
  · exact ⟨_, _, _, rfl⟩
  · exact ⟨_, _, _, rfl⟩

set_option maxRecDepth 100000 in
set_option maxHeartbeats 6400000 in
theorem walk_RouteHostRoute (v : Value) (xs : List Fr) (u : Value) (ys : List Rr) (tz vz oz : Int) (W : World) (hx : FrIn W v xs) (hy : RrIn W u ys) (ht : InI tz) (hv : InI vz) (ho : InI oz) :
    Calls Try.prog 5 #[v, u, .int .i64 tz, .int .i64 vz, .int .i64 oz] W fun e W' => e = .returned (.bool true) ∧ Below W.heap.size W W' := by
  obtain ⟨p0, c0', rfl, -⟩ := hx.form
  obtain ⟨p1, c1', rfl, -⟩ := hy.form
  have HX := Lib.hid hx
  have HY := Lib.hid hy
  clear hx hy
  go_enter Try.func5, Try.ntmps5
  go_wp2_with fail
  refine (sanity_any _).mono ?_
  rintro e w1 ⟨rfl, hb1⟩
  have HX1 := Lib.hid (HX.out.keep hb1)
  have HY1 := Lib.hid (HY.out.keep hb1)
  have HB1 := Lib.hid hb1
  clear hb1 HX HY
  go_wp2_with fail
  refine (faces_any xs _ _ HX1.out).mono ?_
  rintro e w2 ⟨⟨vf, fs, rfl, hf, hg, h1⟩, hb2⟩
  have HB2 := Lib.hid (HB1.out.trans (hb2.mono HB1.out.size))
  have HY2 := Lib.hid (HY1.out.keep hb2)
  have HF2 := Lib.hid hf
  have HG := Lib.hid hg
  have H1 := Lib.hid h1
  clear hb2 hf hg h1 HX1 HY1 HB1
  go_wp2_with fail
  refine (routes_any fs vf ys _ _ HF2.out HG.out H1.out HY2.out).mono ?_
  rintro e w3 ⟨⟨vr, rs, rfl, hr, hgr, hsl⟩, hb3⟩
  have HB3 := Lib.hid (HB2.out.trans (hb3.mono HB2.out.size))
  have HF3 := Lib.hid (HF2.out.keep hb3)
  have HR3 := Lib.hid hr
  have HGR := Lib.hid hgr
  have HSL := Lib.hid hsl
  obtain ⟨p, c, rfl, -⟩ := HF3.out.form
  obtain ⟨n, hn⟩ : ∃ n, fs.length = n := ⟨_, rfl⟩
  have hn4 := HG.out.1
  have hn1 := H1.out
  rw [hn] at HF3 hn4 hn1 ⊢
  have HN := Lib.hid hn
  clear hb3 hr hgr hsl HF2 HY2 HB2 hn
  have P1 := Lib.hid (pickQ_any tz 1000 · ht.1 ht.2 (by decide) (by decide))
  have P2 := Lib.hid (pickQ_any vz (n : Int) · hv.1 hv.2 (by omega) (by omega))
  have P3 := Lib.hid (pickQ_any vz 16 · hv.1 hv.2 (by decide) (by decide))
  have q1 := pickQ_bd tz 1000 (by decide)
  have q2 := pickQ_bd vz (n : Int) (by omega)
  have q3 := pickQ_bd vz 16 (by decide)
  generalize pickQ tz 1000 = t1 at *
  generalize pickQ vz (n : Int) = k0 at *
  generalize pickQ vz 16 = q at *
  obtain ⟨k, rfl⟩ := Int.eq_ofNat_of_zero_le q2.1
  have hkn : k < n := by omega
  have hki : (k : Int) < (n : Int) := by omega
  obtain ⟨A, hA⟩ : ∃ A, 184549376 + t1 = A := ⟨_, rfl⟩
  have hA1 : 184549376 ≤ A ∧ A ≤ 184550375 := by omega
  have u1 : wrap64 (184549376 + t1) = A := by rw [hA]; exact IntWalk.wrap64_in _ ⟨by omega, by omega⟩
  obtain ⟨f, hfk, hin, g, hp, hgl, d0, d1, d2, d3, d4⟩ := HF3.out.at k hkn
  subst hp
  have hgf := HG.out.2 k f hfk
  obtain ⟨S, hS, hS1, hS2, hS3⟩ := sz_cases hgf
  have hfa := hgf.addr_bd (by omega)
  have hna1 : 167772160 ≤ f.na ∧ f.na ≤ 184549375 := by
    have h9 := netZ_bd (a := f.addr) (b := f.nb) (by omega) (by unfold okB; omega)
    rw [← hgf.2.2.2.2.1] at h9
    refine ⟨?_, by omega⟩
    rw [hgf.2.2.2.2.1]; unfold netZ; rw [hS]
    rcases hS3 with ⟨-, rfl⟩ | ⟨-, rfl⟩ | ⟨-, rfl⟩ | ⟨-, rfl⟩ <;> omega
  obtain ⟨V, hV⟩ : ∃ V, f.na + q = V := ⟨_, rfl⟩
  have hV1 : 167772160 ≤ V ∧ V ≤ 184549391 := by omega
  have u2 : wrap64 (f.na + q) = V := by rw [hV]; exact IntWalk.wrap64_in _ ⟨by omega, by omega⟩
  have u3 : IntKind.i64.wrap (f.na + q) = V := by rw [hV]; exact wrap_id (by omega) (by omega)
  obtain ⟨VV, hVV⟩ : ∃ VV, (if locB fs V = true then 0 else V) = VV := ⟨_, rfl⟩
  have hcond : VV = 0 ∨ ∃ q, 0 ≤ q ∧ q < szZ f.nb ∧ q ≤ 16 ∧ VV = f.na + q ∧ locB fs VV = false := by
    by_cases hb : locB fs V = true
    · left; rw [← hVV, if_pos hb]
    · right
      rw [if_neg hb] at hVV
      subst hVV
      exact ⟨q, q3.1, by rw [hS]; omega, by omega, hV.symm, by simpa using hb⟩
  have hVb : 0 ≤ VV ∧ VV ≤ 184549391 := by
    rw [← hVV]; split <;> omega
  have hck := host_ok HG.out H1.out HGR.out hfk hA1.1 hA1.2 hcond
  have hck0 := (good_check HG.out H1.out (by have := HGR.out.1; omega) (fun r h => (HGR.out.2 r h).1)).1
  have hself := host_self HG.out HGR.out hA1.1 hA1.2 hck
  have hoth := fun (b : Int) (hb : b ≠ A) => host_other (b := b) hb hck hck0
  have HSELF := Lib.hid (lv hself)
  have HOTH := Lib.hid hoth
  have HVV := Lib.hid hVV
  clear hck hck0 hself hoth hcond hgf hfk hS hS3 hA hV hVV H1 q1 q2 q3
  have HI := fun w h => Lib.hid (risl_any fs V (.slice (some ⟨g, 0, none⟩) n c) w h)
  go_wp2_with fail
  refine (P1.out _).mono ?_
  rintro e w3' ⟨rfl, rfl⟩
  go_wp2_with fail
  refine (P2.out _).mono ?_
  rintro e w3' ⟨rfl, rfl⟩
  go_wp2_with fail
  go_quiet (first | (go_at_call 11; refine Calls.quiet_of_same ((P3.out _).mono fun _ _ ⟨h1, h2⟩ => ⟨h1, h2.symm⟩)))
  have HFq := Lib.hid (HF3.out.keep (below_drewN (Below.refl _ w3) (k := nq)))
  have HRq := Lib.hid (HR3.out.keep (below_drewN (Below.refl _ w3) (k := nq)))
  have HBq := Lib.hid (below_drewN HB3.out (k := nq))
  obtain ⟨w4, hw4⟩ : ∃ w4, w3.drewN nq = w4 := ⟨_, rfl⟩
  rw [hw4] at HFq HRq HBq ⊢
  clear hw4 d0 d1 d2 d3 d4 hgl HF3 HR3 HB3 P1 P2 P3
  go_wp2_with fail
  refine (HI _ HFq.out).out.mono ?_
  rintro e w5 ⟨rfl, rfl⟩
  clear HI
  generalize locI fs V = li
  obtain ⟨B, hB⟩ : ∃ B, locB fs V = B := ⟨_, rfl⟩
  rw [hB] at HVV ⊢
  clear hB
  have hV0 : (V == 0) = false := by simp; omega
  have HGL := Lib.hid HGR.out.1
  cases B
  · have : V = VV := by simpa using HVV.out
    subst this
    clear HVV
    go_upto_region 10 with fail
    go_cut [19] (fun v wx => Hid (RsAt wx v (rs ++ [⟨A, 32, V, (k : Int)⟩])) ∧ (∃ p n c, v = .slice p n c) ∧ Hid (Below w4.heap.size w4 wx))
    case first =>
      obtain ⟨i0, hi, hz0, hz1, hz2⟩ := info_parts infoR
      rcases HRq.out.shp HSL.out with ⟨rfl, hrs0⟩ | ⟨gr, nr, cr, rfl, hrl⟩
      · subst hrs0
        have hown1 := row_empty w4 29 4 w4.heap.size (Nat.le_refl _)
        have HO1 := Lib.hid hown1
        have HB6 := Lib.hid (below_alloc w4 (.cells #[] 29))
        have HO6 := Lib.hid (hown1.alloc (ro ⟨A, 32, V, (k : Int)⟩))
        have HB7 := Lib.hid (HB6.out.alloc HB6.out.size (ro ⟨A, 32, V, (k : Int)⟩))
        go_wp2_with (at_builtin; first | (refine wpList_append_own_none rfl (.tmp 63) (.tmp 64) 33 rfl w4.heap.size 29 i0 4 Try.underlying33 hi _ 0 [] rfl HO1.out rfl ?_) | refine wpList_append_own _ rfl (.tmp 65) (.tmp 71) 33 rfl w4.heap.size 29 i0 (.agg #[.int .i64 0, .int .i64 0, .int .i64 0, .int .i64 0]) 4 32 Try.underlying33 hi hz0 hz1 hz2 rfl (by decide) (.slice (some ⟨w4.heap.size, 0, none⟩) 0 0) 0 _ rfl HO6.out ⟨_, 0, none⟩ 1 1 (rcl ⟨A, 32, V, (k : Int)⟩) rfl rfl ?e1 ?e2 (by unfold maxLen; omega) (by omega) ?e5 ?_)
        case e1 =>
          intro j u hj
          exact World.news_of_block (by first | exact blk_new _ _ | (have h9 := blk_new (w4.alloc (.cells #[] 29)) (ro ⟨A, 32, V, (k : Int)⟩); rw [World.size_alloc] at h9; exact h9)) j u hj
        case e2 => intro u hu; simp at hu; rcases hu with rfl | rfl | rfl | rfl <;> rfl
        case e5 => exact HB7.out.size
        · intro v2 w7 hown2 hgrow2 _
          have hb7 : Below w4.heap.size w4 w7 := HB7.out.grown hgrow2 HB7.out.size (fun g e => (row_cells HO6.out e).1)
          have hrs : RsAt w7 v2 (([] : List Ro) ++ [⟨A, 32, V, (k : Int)⟩]) := RsAt.of_row (by rw [flatR_snoc]; exact hown2) (by rw [List.length_append]; simp; try omega) (by omega) (fun r hr => by
            rcases List.mem_append.1 hr with hr | hr
            · exact (HGR.out.2 r hr).2.2.2
            · obtain rfl : r = ⟨A, 32, V, (k : Int)⟩ := by simpa using hr
              exact ⟨⟨by show _ ≤ A; omega, by show A ≤ _; omega⟩, ⟨by show _ ≤ (32 : Int); decide, by show (32 : Int) ≤ _; decide⟩, ⟨by show _ ≤ (V : Int); omega, by show (V : Int) ≤ _; omega⟩, ⟨by show _ ≤ (k : Int); omega, by show (k : Int) ≤ _; omega⟩⟩)
          have HRS := Lib.hid hrs
          have HSS := sls_row hown2
          have HB8 := Lib.hid hb7
          clear hown2 hgrow2 hrs hb7
          obtain ⟨p7, n7, c7, rfl⟩ := HSS.slice
          go_wp2_with fail
          go_meet
          exact ⟨HRS, ⟨_, _, _, rfl⟩, HB8⟩
      · have HO1 := Lib.hid (row_empty w4 29 4 w4.heap.size (Nat.le_refl _))
        have HNW := Lib.hid (HRq.out.keep (below_alloc w4 (.cells #[] 29))).news
        have hgl := HGL.out
        go_wp2_with (at_builtin; refine wpList_append_own _ rfl (.tmp 63) (.tmp 64) 33 rfl w4.heap.size 29 i0 (.agg #[.int .i64 0, .int .i64 0, .int .i64 0, .int .i64 0]) 4 32 Try.underlying33 hi hz0 hz1 hz2 rfl (by decide) (.slice (some ⟨w4.heap.size, 0, none⟩) 0 0) 0 [] rfl HO1.out ⟨gr, 0, none⟩ nr cr (flatR rs) rfl ?d0 ?d1 (flatR_one rs) (by unfold maxLen; omega) (by omega) ?d5 ?_)
        case d0 => rw [flatR_len]; omega
        case d1 => exact HNW.out
        case d5 => exact (below_alloc w4 _).size
        · intro v1 w6 hown1 hgrow1 _
          have hown1 : w6.ownsRow w4.heap.size 29 4 v1 nr (flatR rs) := by simpa using hown1
          have HB6 := Lib.hid ((below_alloc w4 (.cells #[] 29)).grown hgrow1 (below_alloc w4 _).size (fun g e => (row_cells HO1.out e).1))
          obtain ⟨vp, vc, rfl, -⟩ := row_shape hown1
          have HO6 := Lib.hid (hown1.alloc (ro ⟨A, 32, V, (k : Int)⟩))
          have HB7 := Lib.hid (HB6.out.alloc HB6.out.size (ro ⟨A, 32, V, (k : Int)⟩))
          go_wp2_with (at_builtin; refine wpList_append_own _ rfl (.tmp 65) (.tmp 71) 33 rfl w4.heap.size 29 i0 (.agg #[.int .i64 0, .int .i64 0, .int .i64 0, .int .i64 0]) 4 32 Try.underlying33 hi hz0 hz1 hz2 rfl (by decide) (.slice vp nr vc) nr _ rfl HO6.out ⟨_, 0, none⟩ 1 1 (rcl ⟨A, 32, V, (k : Int)⟩) rfl rfl ?e1 ?e2 (by unfold maxLen; omega) (by omega) ?e5 ?_)
          case e1 =>
            intro j u hj
            exact World.news_of_block (by first | exact blk_new _ _ | (have h9 := blk_new (w4.alloc (.cells #[] 29)) (ro ⟨A, 32, V, (k : Int)⟩); rw [World.size_alloc] at h9; exact h9)) j u hj
          case e2 => intro u hu; simp at hu; rcases hu with rfl | rfl | rfl | rfl <;> rfl
          case e5 => exact HB7.out.size
          · intro v2 w7 hown2 hgrow2 _
            have hb7 : Below w4.heap.size w4 w7 := HB7.out.grown hgrow2 HB7.out.size (fun g e => (row_cells HO6.out e).1)
            have hrs : RsAt w7 v2 (rs ++ [⟨A, 32, V, (k : Int)⟩]) := RsAt.of_row (by rw [flatR_snoc]; exact hown2) (by rw [List.length_append]; simp; try omega) (by omega) (fun r hr => by
              rcases List.mem_append.1 hr with hr | hr
              · exact (HGR.out.2 r hr).2.2.2
              · obtain rfl : r = ⟨A, 32, V, (k : Int)⟩ := by simpa using hr
                exact ⟨⟨by show _ ≤ A; omega, by show A ≤ _; omega⟩, ⟨by show _ ≤ (32 : Int); decide, by show (32 : Int) ≤ _; decide⟩, ⟨by show _ ≤ (V : Int); omega, by show (V : Int) ≤ _; omega⟩, ⟨by show _ ≤ (k : Int); omega, by show (k : Int) ≤ _; omega⟩⟩)
            have HRS := Lib.hid hrs
            have HSS := sls_row hown2
            have HB8 := Lib.hid hb7
            clear hown2 hgrow2 hrs hb7
            obtain ⟨p7, n7, c7, rfl⟩ := HSS.slice
            go_wp2_with fail
            go_meet
            exact ⟨HRS, ⟨_, _, _, rfl⟩, HB8⟩
    case rest =>
      obtain ⟨HRM, ⟨pm, nm, cm, rfl⟩, HBM⟩ := hcut
      have HFm := Lib.hid (HFq.out.keep HBM.out)
      have HBw := Lib.hid (HBq.out.trans (HBM.out.mono HBq.out.size))
      have HRo := Lib.hid (HRq.out.keep HBM.out)
      obtain ⟨po, no, co, rfl⟩ := HSL.out.slice
      clear HFq HBq HRq HBM
      go_wp2_with fail
      refine (lookup_any fs _ A _ _ _ HFm.out HRM.out (by unfold InI; omega)).mono ?_
      rintro e8 w8 ⟨rfl, hb8⟩
      rw [HSELF.out]
      have HFn := Lib.hid (HFm.out.keep hb8)
      have HRn := Lib.hid (HRM.out.keep hb8)
      have HRp := Lib.hid (HRo.out.keep hb8)
      have HBx := Lib.hid (HBw.out.trans (hb8.mono HBw.out.size))
      clear hb8 HFm HRM HRo HBw
      go_wp2_with fail
      refine (to_any oz _ ho).mono ?_
      rintro e8 w8' ⟨⟨b, rfl, hb⟩, rfl⟩
      cases hba : (b == A)
      rotate_left
      · go_wp2_with fail
        go_ret
        exact ⟨rfl, HBx.out⟩
      have hne : b ≠ A := by simpa using hba
      have HL1 := Lib.hid (HOTH.out b hne)
      obtain ⟨F, N, E, hlk⟩ : ∃ F N E, lookP fs rs b = (F, N, E) := ⟨_, _, _, rfl⟩
      rw [hlk] at HL1
      have HV1 := Lib.hid (lv HL1.out)
      have HV2 := Lib.hid (lv hlk)
      clear hlk HL1 hne
      go_wp2_with fail
      refine (lookup_any fs rs b _ _ _ HFn.out HRp.out hb).mono ?_
      rintro e9 w9 ⟨rfl, hb9⟩
      rw [HV2.out]
      have HFo := Lib.hid (HFn.out.keep hb9)
      have HRq2 := Lib.hid (HRn.out.keep hb9)
      have HBy := Lib.hid (HBx.out.trans (hb9.mono HBx.out.size))
      clear hb9
      go_wp2_with fail
      refine (lookup_any fs _ b _ _ _ HFo.out HRq2.out hb).mono ?_
      rintro e10 w10 ⟨rfl, hb10⟩
      rw [HV1.out]
      have HBz := Lib.hid (HBy.out.trans (hb10.mono HBy.out.size))
      clear hb10
      go_wp2_with fail
      go_ret
      exact ⟨by simp, HBz.out⟩
  · have : VV = 0 := by simpa using HVV.out.symm
    subst this
    clear HVV
    go_upto_region 10 with fail
    go_cut [19] (fun v wx => Hid (RsAt wx v (rs ++ [⟨A, 32, 0, (k : Int)⟩])) ∧ (∃ p n c, v = .slice p n c) ∧ Hid (Below w4.heap.size w4 wx))
    case first =>
      obtain ⟨i0, hi, hz0, hz1, hz2⟩ := info_parts infoR
      rcases HRq.out.shp HSL.out with ⟨rfl, hrs0⟩ | ⟨gr, nr, cr, rfl, hrl⟩
      · subst hrs0
        have hown1 := row_empty w4 29 4 w4.heap.size (Nat.le_refl _)
        have HO1 := Lib.hid hown1
        have HB6 := Lib.hid (below_alloc w4 (.cells #[] 29))
        have HO6 := Lib.hid (hown1.alloc (ro ⟨A, 32, 0, (k : Int)⟩))
        have HB7 := Lib.hid (HB6.out.alloc HB6.out.size (ro ⟨A, 32, 0, (k : Int)⟩))
        go_wp2_with (at_builtin; first | (refine wpList_append_own_none rfl (.tmp 63) (.tmp 64) 33 rfl w4.heap.size 29 i0 4 Try.underlying33 hi _ 0 [] rfl HO1.out rfl ?_) | refine wpList_append_own _ rfl (.tmp 65) (.tmp 71) 33 rfl w4.heap.size 29 i0 (.agg #[.int .i64 0, .int .i64 0, .int .i64 0, .int .i64 0]) 4 32 Try.underlying33 hi hz0 hz1 hz2 rfl (by decide) (.slice (some ⟨w4.heap.size, 0, none⟩) 0 0) 0 _ rfl HO6.out ⟨_, 0, none⟩ 1 1 (rcl ⟨A, 32, 0, (k : Int)⟩) rfl rfl ?e1 ?e2 (by unfold maxLen; omega) (by omega) ?e5 ?_)
        case e1 =>
          intro j u hj
          exact World.news_of_block (by first | exact blk_new _ _ | (have h9 := blk_new (w4.alloc (.cells #[] 29)) (ro ⟨A, 32, 0, (k : Int)⟩); rw [World.size_alloc] at h9; exact h9)) j u hj
        case e2 => intro u hu; simp at hu; rcases hu with rfl | rfl | rfl | rfl <;> rfl
        case e5 => exact HB7.out.size
        · intro v2 w7 hown2 hgrow2 _
          have hb7 : Below w4.heap.size w4 w7 := HB7.out.grown hgrow2 HB7.out.size (fun g e => (row_cells HO6.out e).1)
          have hrs : RsAt w7 v2 (([] : List Ro) ++ [⟨A, 32, 0, (k : Int)⟩]) := RsAt.of_row (by rw [flatR_snoc]; exact hown2) (by rw [List.length_append]; simp; try omega) (by omega) (fun r hr => by
            rcases List.mem_append.1 hr with hr | hr
            · exact (HGR.out.2 r hr).2.2.2
            · obtain rfl : r = ⟨A, 32, 0, (k : Int)⟩ := by simpa using hr
              exact ⟨⟨by show _ ≤ A; omega, by show A ≤ _; omega⟩, ⟨by show _ ≤ (32 : Int); decide, by show (32 : Int) ≤ _; decide⟩, ⟨by show _ ≤ (0 : Int); omega, by show (0 : Int) ≤ _; omega⟩, ⟨by show _ ≤ (k : Int); omega, by show (k : Int) ≤ _; omega⟩⟩)
          have HRS := Lib.hid hrs
          have HSS := sls_row hown2
          have HB8 := Lib.hid hb7
          clear hown2 hgrow2 hrs hb7
          obtain ⟨p7, n7, c7, rfl⟩ := HSS.slice
          go_wp2_with fail
          go_meet
          exact ⟨HRS, ⟨_, _, _, rfl⟩, HB8⟩
      · have HO1 := Lib.hid (row_empty w4 29 4 w4.heap.size (Nat.le_refl _))
        have HNW := Lib.hid (HRq.out.keep (below_alloc w4 (.cells #[] 29))).news
        have hgl := HGL.out
        go_wp2_with (at_builtin; refine wpList_append_own _ rfl (.tmp 63) (.tmp 64) 33 rfl w4.heap.size 29 i0 (.agg #[.int .i64 0, .int .i64 0, .int .i64 0, .int .i64 0]) 4 32 Try.underlying33 hi hz0 hz1 hz2 rfl (by decide) (.slice (some ⟨w4.heap.size, 0, none⟩) 0 0) 0 [] rfl HO1.out ⟨gr, 0, none⟩ nr cr (flatR rs) rfl ?d0 ?d1 (flatR_one rs) (by unfold maxLen; omega) (by omega) ?d5 ?_)
        case d0 => rw [flatR_len]; omega
        case d1 => exact HNW.out
        case d5 => exact (below_alloc w4 _).size
        · intro v1 w6 hown1 hgrow1 _
          have hown1 : w6.ownsRow w4.heap.size 29 4 v1 nr (flatR rs) := by simpa using hown1
          have HB6 := Lib.hid ((below_alloc w4 (.cells #[] 29)).grown hgrow1 (below_alloc w4 _).size (fun g e => (row_cells HO1.out e).1))
          obtain ⟨vp, vc, rfl, -⟩ := row_shape hown1
          have HO6 := Lib.hid (hown1.alloc (ro ⟨A, 32, 0, (k : Int)⟩))
          have HB7 := Lib.hid (HB6.out.alloc HB6.out.size (ro ⟨A, 32, 0, (k : Int)⟩))
          go_wp2_with (at_builtin; refine wpList_append_own _ rfl (.tmp 65) (.tmp 71) 33 rfl w4.heap.size 29 i0 (.agg #[.int .i64 0, .int .i64 0, .int .i64 0, .int .i64 0]) 4 32 Try.underlying33 hi hz0 hz1 hz2 rfl (by decide) (.slice vp nr vc) nr _ rfl HO6.out ⟨_, 0, none⟩ 1 1 (rcl ⟨A, 32, 0, (k : Int)⟩) rfl rfl ?e1 ?e2 (by unfold maxLen; omega) (by omega) ?e5 ?_)
          case e1 =>
            intro j u hj
            exact World.news_of_block (by first | exact blk_new _ _ | (have h9 := blk_new (w4.alloc (.cells #[] 29)) (ro ⟨A, 32, 0, (k : Int)⟩); rw [World.size_alloc] at h9; exact h9)) j u hj
          case e2 => intro u hu; simp at hu; rcases hu with rfl | rfl | rfl | rfl <;> rfl
          case e5 => exact HB7.out.size
          · intro v2 w7 hown2 hgrow2 _
            have hb7 : Below w4.heap.size w4 w7 := HB7.out.grown hgrow2 HB7.out.size (fun g e => (row_cells HO6.out e).1)
            have hrs : RsAt w7 v2 (rs ++ [⟨A, 32, 0, (k : Int)⟩]) := RsAt.of_row (by rw [flatR_snoc]; exact hown2) (by rw [List.length_append]; simp; try omega) (by omega) (fun r hr => by
              rcases List.mem_append.1 hr with hr | hr
              · exact (HGR.out.2 r hr).2.2.2
              · obtain rfl : r = ⟨A, 32, 0, (k : Int)⟩ := by simpa using hr
                exact ⟨⟨by show _ ≤ A; omega, by show A ≤ _; omega⟩, ⟨by show _ ≤ (32 : Int); decide, by show (32 : Int) ≤ _; decide⟩, ⟨by show _ ≤ (0 : Int); omega, by show (0 : Int) ≤ _; omega⟩, ⟨by show _ ≤ (k : Int); omega, by show (k : Int) ≤ _; omega⟩⟩)
            have HRS := Lib.hid hrs
            have HSS := sls_row hown2
            have HB8 := Lib.hid hb7
            clear hown2 hgrow2 hrs hb7
            obtain ⟨p7, n7, c7, rfl⟩ := HSS.slice
            go_wp2_with fail
            go_meet
            exact ⟨HRS, ⟨_, _, _, rfl⟩, HB8⟩
    case rest =>
      obtain ⟨HRM, ⟨pm, nm, cm, rfl⟩, HBM⟩ := hcut
      have HFm := Lib.hid (HFq.out.keep HBM.out)
      have HBw := Lib.hid (HBq.out.trans (HBM.out.mono HBq.out.size))
      have HRo := Lib.hid (HRq.out.keep HBM.out)
      obtain ⟨po, no, co, rfl⟩ := HSL.out.slice
      clear HFq HBq HRq HBM
      go_wp2_with fail
      refine (lookup_any fs _ A _ _ _ HFm.out HRM.out (by unfold InI; omega)).mono ?_
      rintro e8 w8 ⟨rfl, hb8⟩
      rw [HSELF.out]
      have HFn := Lib.hid (HFm.out.keep hb8)
      have HRn := Lib.hid (HRM.out.keep hb8)
      have HRp := Lib.hid (HRo.out.keep hb8)
      have HBx := Lib.hid (HBw.out.trans (hb8.mono HBw.out.size))
      clear hb8 HFm HRM HRo HBw
      go_wp2_with fail
      refine (to_any oz _ ho).mono ?_
      rintro e8 w8' ⟨⟨b, rfl, hb⟩, rfl⟩
      cases hba : (b == A)
      rotate_left
      · go_wp2_with fail
        go_ret
        exact ⟨rfl, HBx.out⟩
      have hne : b ≠ A := by simpa using hba
      have HL1 := Lib.hid (HOTH.out b hne)
      obtain ⟨F, N, E, hlk⟩ : ∃ F N E, lookP fs rs b = (F, N, E) := ⟨_, _, _, rfl⟩
      rw [hlk] at HL1
      have HV1 := Lib.hid (lv HL1.out)
      have HV2 := Lib.hid (lv hlk)
      clear hlk HL1 hne
      go_wp2_with fail
      refine (lookup_any fs rs b _ _ _ HFn.out HRp.out hb).mono ?_
      rintro e9 w9 ⟨rfl, hb9⟩
      rw [HV2.out]
      have HFo := Lib.hid (HFn.out.keep hb9)
      have HRq2 := Lib.hid (HRn.out.keep hb9)
      have HBy := Lib.hid (HBx.out.trans (hb9.mono HBx.out.size))
      clear hb9
      go_wp2_with fail
      refine (lookup_any fs _ b _ _ _ HFo.out HRq2.out hb).mono ?_
      rintro e10 w10 ⟨rfl, hb10⟩
      rw [HV1.out]
      have HBz := Lib.hid (HBy.out.trans (hb10.mono HBy.out.size))
      clear hb10
      go_wp2_with fail
      go_ret
      exact ⟨by simp, HBz.out⟩
end Go.Proofs.Ytgfcpimklmgnbaa

/- The walk of RouteOrderIndependent. -/
import Derived.Test.YtgfcpimklmgnbaaRoS
import Derived.Test.YtgfcpimklmgnbaaRoT
import Derived.Deep.CutRange
import Derived.Deep.DeepCutAuto
import Derived.BigQuiet
namespace Go.Proofs.Ytgfcpimklmgnbaa
open Go.RowKit Go.Shelf
set_option linter.unusedVariables false
attribute [local go_sem] Oper.semAt_some

theorem run_pfxEq (a b c d : Int) (w : World) : (Op.equalIn 10000 25 (.agg #[.int .i64 a, .int .i64 b]) (.agg #[.int .i64 c, .int .i64 d])).run Try.prog w = .ok ((a == c) && (b == d)) w := by
  rw [run_equalIn_struct w 9999 _ _ _ (by kernel_rfl) (by kernel_rfl)]
  simp [go_sem]
  repeat' split
  all_goals simp [*]
theorem any_one {rs : List Ro} {k : Nat} {r : Ro} (h : rs[k]? = some r) (f : Ro → Bool) : (rs.take (k + 1)).any f = ((rs.take k).any f || f r) := by
  rw [List.take_add_one, h, List.any_append]; simp
theorem row_keep {W W' : World} {base : Nat} {e : TypeId} {size : Nat} {v : Value} {n : Nat} {xs : List Value} (h : W.ownsRow base e size v n xs) (hb : Below W.heap.size W W') : W'.ownsRow base e size v n xs :=
  row_of_block h (fun g e => by obtain ⟨-, cur, hc⟩ := row_cells h e; exact hb.block g (blk_lt hc))
theorem RsAt.own {w : World} {base n : Nat} {v : Value} {rs all : List Ro} (h : w.ownsRow base 29 4 v n (flatR rs)) (hn : rs.length = n) (hl : n ≤ 8) (hs : ∀ r, r ∈ rs → r ∈ all) (hin : ∀ r, r ∈ all → InR r) : RsAt w v rs :=
  RsAt.of_row h hn (by omega) (fun r hr => hin r (hs r hr))
theorem rev_drop {l : List Ro} {t : Nat} {r : Ro} (h : l[t]? = some r) : (l.drop t).reverse = (l.drop (t + 1)).reverse ++ [r] := by
  obtain ⟨hl, he⟩ := List.getElem?_eq_some_iff.1 h
  rw [List.drop_eq_getElem_cons hl, he, List.reverse_cons]

set_option maxRecDepth 100000 in
set_option maxHeartbeats 6400000 in
theorem walk_RouteOrderIndependent (v : Value) (xs : List Fr) (u : Value) (ys : List Rr) (tz : Int) (W : World) (hx : FrIn W v xs) (hy : RrIn W u ys) (ht : InI tz) :
    Calls Try.prog 6 #[v, u, .int .i64 tz] W fun e W' => e = .returned (.bool true) ∧ Below W.heap.size W W' := by
  obtain ⟨p0, c0', rfl, -⟩ := hx.form
  obtain ⟨p1, c1', rfl, -⟩ := hy.form
  have HX := Lib.hid hx
  have HY := Lib.hid hy
  clear hx hy
  go_enter Try.func6, Try.ntmps6
  go_wp2_with fail
  refine (sanity_any _).mono ?_
  rintro e w1 ⟨rfl, hb1⟩
  have HX1 := Lib.hid (HX.out.keep hb1)
  have HY1 := Lib.hid (HY.out.keep hb1)
  have HB1 := Lib.hid hb1
  clear hb1 HX HY
  go_wp2_with fail
  refine (faces_any xs _ _ HX1.out).mono ?_
  rintro e w2 ⟨⟨vf, fs, rfl, hf, hg, h1⟩, hb2⟩
  have HB2 := Lib.hid (HB1.out.trans (hb2.mono HB1.out.size))
  have HY2 := Lib.hid (HY1.out.keep hb2)
  have HF2 := Lib.hid hf
  have HG := Lib.hid hg
  have H1 := Lib.hid h1
  clear hb2 hf hg h1 HX1 HY1 HB1
  go_wp2_with fail
  refine (routes_any fs vf ys _ _ HF2.out HG.out H1.out HY2.out).mono ?_
  rintro e w3 ⟨⟨vr, all, rfl, hr, hgr, hsl⟩, hb3⟩
  have HB3 := Lib.hid (HB2.out.trans (hb3.mono HB2.out.size))
  have HF3 := Lib.hid (HF2.out.keep hb3)
  have HGR := Lib.hid hgr
  have hm8 := hgr.1
  obtain ⟨p2, c2, rfl, -⟩ := hr.form
  obtain ⟨m, hm⟩ : ∃ m, all.length = m := ⟨_, rfl⟩
  rw [hm] at hr hm8 ⊢
  have HR3 := Lib.hid hr
  have HM := Lib.hid hm
  have hin : ∀ r, r ∈ all → InR r := fun r h => (hgr.2 r h).2.2.2
  have HIN := Lib.hid hin
  have hord := fun a => order_same (fs := fs) (all := all) a (fun rs h2 h3 => (good_check HG.out H1.out (by have := hgr.1; omega) (fun r hr => (hgr.2 r (h3 r hr)).1)).1)
  have HORD := Lib.hid hord
  have hdl := dedP_len all
  rw [hm] at hdl
  have HDL := Lib.hid hdl
  clear hb3 hr hgr hsl HF2 HY2 HB2 hm hin hord H1 hdl
  go_wp2_with fail
  go_loopw [10, 11] (fun o i wr => ∃ j : Nat, j ≤ m ∧ i = .int .i64 (j : Int) ∧ Hid (wr.ownsRow w3.heap.size 29 4 o (dedP (all.take j)).length (flatR (dedP (all.take j)))) ∧ Hid (Below w3.heap.size w3 wr)) (fun _ i _ => m - (intOf i).toNat)
  case atStart => exact ⟨0, Nat.zero_le _, rfl, World.ownsRow_nil _ _ _ _, Below.refl _ _⟩
  case round =>
    obtain ⟨j, hj, rfl, HO, HBj⟩ := hrel
    obtain ⟨vp, vc, rfl, -⟩ := row_shape HO.out
    obtain ⟨d, hd⟩ : ∃ d, (dedP (all.take j)).length = d := ⟨_, rfl⟩
    have hd8 : d ≤ 8 := by
      have h9 := dedP_len (all.take j)
      rw [hd, List.length_take] at h9
      have := HM.out
      omega
    rw [hd] at HO ⊢
    have HD := Lib.hid hd
    have hsub : ∀ r, r ∈ dedP (all.take j) → r ∈ all := fun r hr => List.mem_of_mem_take (dedP_sub _ r hr)
    have HSUB := Lib.hid hsub
    have HRt := Lib.hid (RsAt.own HO.out hd hd8 hsub HIN.out)
    clear hd hsub
    rcases Nat.lt_or_ge j m with hjm | hjm
    · obtain ⟨r, hrj, hri, g, hp, hgl, c0, c1, c2', c3⟩ := (HR3.out.keep HBj.out).at j hjm
      subst hp
      have HS := Lib.hid (dedP_succ hrj)
      have hji : (j : Int) < (m : Int) := by omega
      obtain ⟨acc, hacc⟩ : ∃ acc, dedP (all.take j) = acc := ⟨_, rfl⟩
      rw [hacc] at HS HRt HO HD HSUB
      clear hrj hri hacc
      go_wp2_with fail
      go_loopw [12, 13] (fun tw k wt => ∃ t : Nat, t ≤ d ∧ k = .int .i64 (t : Int) ∧ tw = .bool ((acc.take t).any (sameN r)) ∧ Hid (Below wr.heap.size wr wt)) (fun _ k _ => d - (intOf k).toNat)
      case atStart => exact ⟨0, Nat.zero_le _, rfl, by simp, Below.refl _ _⟩
      case round =>
        obtain ⟨t, ht', rfl, rfl, HBt⟩ := hrel
        rcases Nat.lt_or_ge t d with htd | htd
        · obtain ⟨e, het, hei, g2, hp2, hgl2, a0, a1, a2, a3⟩ := (HRt.out.keep HBt.out).at t htd
          subst hp2
          have b0 := (HBt.out.cell (World.block_lt_of_cell? _ _ c0)).trans c0
          have b1 := (HBt.out.cell (World.block_lt_of_cell? _ _ c1)).trans c1
          have hsn := any_one het (sameN r)
          have heq : ∀ w, (Op.equalIn 10000 25 (.agg #[.int .i64 e.na, .int .i64 e.nb]) (.agg #[.int .i64 r.na, .int .i64 r.nb])).run Try.prog w = .ok (sameN r e) w := fun w => run_pfxEq _ _ _ _ w
          have hti : (t : Int) < (d : Int) := by omega
          generalize hq : (acc.take t).any (sameN r) = q at *
          have HSN := Lib.hid hsn
          clear hsn hq het hei c0 c1 c2' c3
          cases q
          · go_wp2_with fail
            go_quiet (fail)
            go_wp2_with fail
            go_roundw
            case rel => exact ⟨t + 1, by omega, by go_num, by rw [HSN.out]; rfl, below_drewN HBt.out⟩
            case measure => simp [intOf]; omega
          · go_wp2_with fail
            go_quiet (fail)
            go_wp2_with fail
            go_roundw
            case rel => exact ⟨t + 1, by omega, by go_num, by rw [HSN.out]; rfl, below_drewN HBt.out⟩
            case measure => simp [intOf]; omega
        · obtain rfl : t = d := by omega
          have hall : acc.take t = acc := List.take_of_length_le (by rw [HD.out]; exact Nat.le_refl _)
          rw [hall]
          clear hall
          have b0 := (HBt.out.cell (World.block_lt_of_cell? _ _ c0)).trans c0
          have b1 := (HBt.out.cell (World.block_lt_of_cell? _ _ c1)).trans c1
          have b2 := (HBt.out.cell (World.block_lt_of_cell? _ _ c2')).trans c2'
          have b3 := (HBt.out.cell (World.block_lt_of_cell? _ _ c3)).trans c3
          have HO2 := Lib.hid (row_keep HO.out HBt.out)
          have HB2' := Lib.hid (HBj.out.trans (HBt.out.mono HBj.out.size))
          have hS := HS.out
          unfold dedS at hS
          clear c0 c1 c2' c3 HBt HBj HO
          cases hq : acc.any (sameN r)
          · rw [hq] at hS
            have HS2 : Hid (dedP (all.take (j + 1)) = acc ++ [r]) := Lib.hid (by simpa using hS)
            have HO3 := Lib.hid (HO2.out.alloc (ro r))
            have HB3' := Lib.hid (HB2'.out.alloc HB2'.out.size (ro r))
            obtain ⟨i0, hi, hz0, hz1, hz2⟩ := info_parts infoR
            clear hS hq
            go_wp2_with (at_builtin; refine wpList_append_own _ rfl (.tmp 60) (.tmp 65) 33 rfl w3.heap.size 29 i0 (.agg #[.int .i64 0, .int .i64 0, .int .i64 0, .int .i64 0]) 4 32 Try.underlying33 hi hz0 hz1 hz2 rfl (by decide) (.slice vp t vc) t _ rfl HO3.out ⟨_, 0, none⟩ 1 1 (rcl r) rfl rfl ?e1 ?e2 (by unfold maxLen; omega) (by omega) ?e5 ?_)
            case e1 =>
              intro j u hj
              exact World.news_of_block (blk_new _ _) j u hj
            case e2 => intro u hu; simp at hu; rcases hu with rfl | rfl | rfl | rfl <;> rfl
            case e5 => exact HB3'.out.size
            · intro v2 w7 hown2 hgrow2 _
              have hb7 := HB3'.out.grown hgrow2 HB3'.out.size (fun g e => (row_cells HO3.out e).1)
              have hlen : (acc ++ [r]).length = t + 1 := by rw [List.length_append, HD.out]; rfl
              have HOW := Lib.hid hown2
              have HB7 := Lib.hid hb7
              have HLEN := Lib.hid hlen
              clear hown2 hgrow2 hb7 hlen
              go_wp2_with fail
              go_roundw
              case rel => exact ⟨j + 1, by omega, by go_num, by rw [HS2.out, HLEN.out, flatR_snoc]; exact HOW, HB7⟩
              case measure => simp [intOf]; omega
          · rw [hq] at hS
            have HS2 : Hid (dedP (all.take (j + 1)) = acc) := Lib.hid (by simpa using hS)
            clear hS hq
            go_wp2_with fail
            go_roundw
            case rel => exact ⟨j + 1, by omega, by go_num, by rw [HS2.out, HD.out]; exact HO2, HB2'⟩
            case measure => simp [intOf]; omega
    · obtain rfl : j = m := by omega
      have hall : all.take j = all := List.take_of_length_le (by rw [HM.out]; exact Nat.le_refl _)
      rw [hall] at HO HD HSUB HRt
      obtain ⟨rs, hrs⟩ : ∃ rs, dedP all = rs := ⟨_, rfl⟩
      rw [hrs] at HO HD HSUB HRt
      have HORD2 : Hid (∀ a : Int, lookP fs rs a = lookP fs rs.reverse a ∧ lookP fs rs a = lookP fs all a) := by rw [← hrs]; exact HORD
      have HRA := Lib.hid (HR3.out.keep HBj.out)
      have HFA := Lib.hid (HF3.out.keep HBj.out)
      have HBA := Lib.hid (HB3.out.trans (HBj.out.mono HB3.out.size))
      have u1 : wrap64 ((d : Int) - 1) = (d : Int) - 1 := IntWalk.wrap64_in _ ⟨by omega, by omega⟩
      obtain ⟨wa, hwa⟩ : ∃ wa, wr = wa := ⟨_, rfl⟩
      rw [hwa] at HRt HRA HFA HBA HO ⊢
      clear hwa hall hrs HORD HDL HO HR3 HF3 HB3 HBj
      go_wp2_with fail
      go_loopw [14, 15] (fun o i wt => ∃ t : Nat, t ≤ d ∧ i = .int .i64 ((t : Int) - 1) ∧ Hid (wt.ownsRow wa.heap.size 29 4 o (d - t) (flatR (rs.drop t).reverse)) ∧ Hid (Below wa.heap.size wa wt)) (fun _ i _ => (intOf i + 1).toNat)
      case atStart => exact ⟨d, Nat.le_refl _, rfl, Lib.hid (by rw [Nat.sub_self, List.drop_of_length_le (by rw [HD.out]; exact Nat.le_refl _)]; exact World.ownsRow_nil _ _ _ _), Below.refl _ _⟩
      case round =>
        obtain ⟨t, ht', rfl, HO, HBt⟩ := hrel
        obtain ⟨vp', vc', rfl, -⟩ := row_shape HO.out
        rcases Nat.eq_zero_or_pos t with ht0 | ht0
        rotate_left
        · obtain ⟨t, rfl⟩ : ∃ t', t = t' + 1 := ⟨t - 1, by omega⟩
          obtain ⟨r, hrt, hri, g2, hp2, hgl2, a0, a1, a2, a3⟩ := (HRt.out.keep HBt.out).at t (by omega)
          subst hp2
          have HRV := Lib.hid (rev_drop hrt)
          have e1 : ((t + 1 : Nat) : Int) - 1 = (t : Int) := by omega
          rw [e1]
          have hti : (t : Int) < (d : Int) := by omega
          have ht0i : ((0 : Int) ≤ (t : Int)) = True := eq_true (by omega)
          have u2 : wrap64 ((t : Int) - 1) = (t : Int) - 1 := IntWalk.wrap64_in _ ⟨by omega, by omega⟩
          have HO3 := Lib.hid (HO.out.alloc (ro r))
          have HB3' := Lib.hid (HBt.out.alloc HBt.out.size (ro r))
          obtain ⟨i0, hi, hz0, hz1, hz2⟩ := info_parts infoR
          clear hrt hri e1
          go_wp2_with (at_builtin; refine wpList_append_own _ rfl (.tmp 74) (.tmp 79) 33 rfl wa.heap.size 29 i0 (.agg #[.int .i64 0, .int .i64 0, .int .i64 0, .int .i64 0]) 4 32 Try.underlying33 hi hz0 hz1 hz2 rfl (by decide) (.slice vp' (d - (t + 1)) vc') (d - (t + 1)) _ rfl HO3.out ⟨_, 0, none⟩ 1 1 (rcl r) rfl rfl ?e1 ?e2 (by unfold maxLen; omega) (by omega) ?e5 ?_)
          case e1 =>
            intro j u hj
            exact World.news_of_block (blk_new _ _) j u hj
          case e2 => intro u hu; simp at hu; rcases hu with rfl | rfl | rfl | rfl <;> rfl
          case e5 => exact HB3'.out.size
          · intro v2 w7 hown2 hgrow2 _
            have hb7 := HB3'.out.grown hgrow2 HB3'.out.size (fun g e => (row_cells HO3.out e).1)
            have HOW : Hid (w7.ownsRow wa.heap.size 29 4 v2 (d - t) (flatR (rs.drop t).reverse)) := Lib.hid (by
              rw [HRV.out, flatR_snoc, show d - t = d - (t + 1) + 1 by omega]; exact hown2)
            have HB7 := Lib.hid hb7
            clear hown2 hgrow2 hb7
            go_wp2_with fail
            go_roundw
            case rel => exact ⟨t, by omega, rfl, HOW, HB7⟩
            case measure => simp [intOf]; try omega
        · subst ht0
          have hlo : ((0 : Int) ≤ ((0 : Nat) : Int) - 1) = False := eq_false (by omega)
          have hrev : rs.reverse.length = d := by rw [List.length_reverse]; exact HD.out
          have hown := HO.out
          rw [List.drop_zero, Nat.sub_zero] at hown
          have HRB := Lib.hid (RsAt.own hown hrev hd8 (fun r hr => HSUB.out r (List.mem_reverse.1 hr)) HIN.out)
          have HRC := Lib.hid (HRt.out.keep HBt.out)
          have HRD := Lib.hid (HRA.out.keep HBt.out)
          have HFD := Lib.hid (HFA.out.keep HBt.out)
          have HBD := Lib.hid (HBA.out.trans (HBt.out.mono HBA.out.size))
          obtain ⟨pf, cf, rfl, -⟩ := HFD.out.form
          clear hown hrev HO HRt HRA HFA HBA HBt
          rw [Nat.sub_zero]
          go_wp2_with fail
          refine (to_any tz _ ht).mono ?_
          rintro e8 w8 ⟨⟨a, rfl, ha⟩, rfl⟩
          obtain ⟨F, N, E, hlk⟩ : ∃ F N E, lookP fs rs a = (F, N, E) := ⟨_, _, _, rfl⟩
          obtain ⟨o1, o2⟩ := HORD2.out a
          rw [hlk] at o1 o2
          have HV1 := Lib.hid (lv hlk)
          have HV2 := Lib.hid (lv o1.symm)
          have HV3 := Lib.hid (lv o2.symm)
          clear hlk o1 o2
          go_wp2_with fail
          refine (lookup_any fs rs a _ _ _ HFD.out HRC.out ha).mono ?_
          rintro e9 w9 ⟨rfl, hb9⟩
          rw [HV1.out]
          have HF9 := Lib.hid (HFD.out.keep hb9)
          have HRB9 := Lib.hid (HRB.out.keep hb9)
          have HRD9 := Lib.hid (HRD.out.keep hb9)
          have HB9 := Lib.hid (HBD.out.trans (hb9.mono HBD.out.size))
          clear hb9
          go_wp2_with fail
          refine (lookup_any fs rs.reverse a _ _ _ HF9.out HRB9.out ha).mono ?_
          rintro e10 w10 ⟨rfl, hb10⟩
          rw [HV2.out]
          have HF10 := Lib.hid (HF9.out.keep hb10)
          have HRD10 := Lib.hid (HRD9.out.keep hb10)
          have HB10 := Lib.hid (HB9.out.trans (hb10.mono HB9.out.size))
          clear hb10
          go_wp2_with fail
          refine (lookup_any fs all a _ _ _ HF10.out HRD10.out ha).mono ?_
          rintro e11 w11 ⟨rfl, hb11⟩
          rw [HV3.out]
          have HB11 := Lib.hid (HB10.out.trans (hb11.mono HB10.out.size))
          clear hb11
          go_wp2_with fail
          go_ret
          exact ⟨by simp, HB11.out⟩
end Go.Proofs.Ytgfcpimklmgnbaa

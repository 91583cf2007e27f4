/- The walk of RouteLongestPrefix. -/
import Derived.Test.YtgfcpimklmgnbaaRoQ
import Derived.Test.YtgfcpimklmgnbaaRoL
import Derived.Deep.CutRange
import Derived.Deep.DeepCutAuto
namespace Go.Proofs.Ytgfcpimklmgnbaa
open Go.RowKit Go.Shelf
set_option linter.unusedVariables false
attribute [local go_sem] Oper.semAt_some

theorem stB_step {o : Option Ro} {x : Ro} (hx : 0 ≤ x.nb) : stB (stepC o x) = if stB o < x.nb then x.nb else stB o := by
  by_cases h : stB o < x.nb
  · rw [step_yes h, if_pos h]; rfl
  · rw [step_no h hx, if_neg h]
/-- a route that may be the one that was chosen -/
def isSel (bits a F N : Int) (r : Ro) : Bool := (r.nb == bits) && (contZ r.na r.nb a && ((r.face == F) && ((r.via == N) || ((r.via == 0) && (N == a)))))
/-- what Lookup answers names a candidate that no longer one beats -/
theorem longest {fs : List Fc} {rs : List Ro} {a : Int} (hg : GoodFs fs) (h1 : 1 ≤ fs.length) (hr : GoodRs fs rs) (hu : uni a = true) :
    (bestC (candL fs rs a) = none ∧ lookP fs rs a = (0, 0, 91)) ∨ ∃ (c : Ro) (i : Nat) (e : Fc) (N : Int), bestC (candL fs rs a) = some c ∧ lookP fs rs a = ((i : Int), N, 0) ∧ fs[i]? = some e ∧ 0 ≤ c.nb ∧
      ((((e.nb == c.nb) && ((N == a) && contZ e.na e.nb a)) || rs.any (isSel c.nb a (i : Int) N)) = true) ∧ (((N == a) || contZ e.na e.nb N) = true) := by
  have hck := (good_check hg h1 (by have := hr.1; omega) (fun r h => (hr.2 r h).1)).1
  rcases look_good hck hu with ⟨h2, h3⟩ | ⟨c, hc, hb, hl, hmax⟩
  · exact .inl ⟨by rw [h3]; rfl, h2⟩
  · right
    have hnb := cand_nb c hc
    rcases mem_cand.1 hc with ⟨i, e, he, hce, rfl⟩ | ⟨hm, hcc⟩
    · exact ⟨_, i, e, a, hb, by rw [hl]; simp, he, hnb, by simp [hce], by simp⟩
    · have hok := (hr.2 c hm).1
      unfold okR at hok
      simp only [Bool.and_eq_true, decide_eq_true_eq] at hok
      obtain ⟨⟨-, hf1, hf2⟩, hvia⟩ := hok
      obtain ⟨i, hi⟩ := Int.eq_ofNat_of_zero_le hf1
      have hil : i < fs.length := by omega
      refine ⟨c, i, fs[i], (if c.via = 0 then a else c.via), hb, by rw [hl, hi], List.getElem?_eq_getElem hil, hnb, ?_, ?_⟩
      · rw [Bool.or_eq_true]
        right
        rw [List.any_eq_true]
        refine ⟨c, hm, ?_⟩
        unfold isSel
        simp only [hcc, hi]
        by_cases hv : c.via = 0
        · simp [hv]
        · simp [hv]
      · by_cases hv : c.via = 0
        · simp [hv]
        · unfold okVia at hvia
          rw [hi, netOf_at (List.getElem?_eq_getElem hil)] at hvia
          simp [hv] at hvia
          simp [hv, hvia.2.1]
theorem any_succ {rs : List Ro} {k : Nat} {r : Ro} (h : rs[k]? = some r) (f : Ro → Bool) : (rs.take (k + 1)).any f = ((rs.take k).any f || f r) := by
  rw [List.take_add_one, h, List.any_append]; simp

set_option maxRecDepth 100000 in
set_option maxHeartbeats 6400000 in
theorem walk_RouteLongestPrefix (v : Value) (xs : List Fr) (u : Value) (ys : List Rr) (tz : Int) (W : World) (hx : FrIn W v xs) (hy : RrIn W u ys) (ht : InI tz) :
    Calls Try.prog 4 #[v, u, .int .i64 tz] W fun e W' => e = .returned (.bool true) ∧ Below W.heap.size W W' := by
  obtain ⟨p0, c0', rfl, -⟩ := hx.form
  obtain ⟨p1, c1', rfl, -⟩ := hy.form
  have HX := Lib.hid hx
  have HY := Lib.hid hy
  clear hx hy
  go_enter Try.func4, Try.ntmps4
  go_wp2_with fail
  refine (sanity_any _).mono ?_
  rintro e w1 ⟨rfl, hb1⟩
  have HX1 := Lib.hid (HX.out.keep hb1)
  have HY1 := Lib.hid (HY.out.keep hb1)
  have HB1 := Lib.hid hb1
  clear hb1 HX HY
  go_wp2_with fail
  refine (faces_any xs _ _ HX1.out).mono ?_
  rintro e w2 ⟨⟨vf, fs, rfl, hf, hg, h1⟩, hb2⟩
  have HB2 := Lib.hid (HB1.out.trans (hb2.mono HB1.out.size))
  have HY2 := Lib.hid (HY1.out.keep hb2)
  have HF2 := Lib.hid hf
  have HG := Lib.hid hg
  have H1 := Lib.hid h1
  clear hb2 hf hg h1 HX1 HY1 HB1
  go_wp2_with fail
  refine (routes_any fs vf ys _ _ HF2.out HG.out H1.out HY2.out).mono ?_
  rintro e w3 ⟨⟨vr, rs, rfl, hr, hgr, -⟩, hb3⟩
  have HB3 := Lib.hid (HB2.out.trans (hb3.mono HB2.out.size))
  have HF3 := Lib.hid (HF2.out.keep hb3)
  have HR3 := Lib.hid hr
  have HGR := Lib.hid hgr
  clear hb3 hr hgr HF2 HY2 HB2
  go_wp2_with fail
  refine (to_any tz _ ht).mono ?_
  rintro e w3' ⟨⟨a, rfl, ha⟩, rfl⟩
  go_wp2_with fail
  refine (lookup_any fs rs a _ _ _ HF3.out HR3.out ha).mono ?_
  rintro e w4 ⟨rfl, hb4⟩
  have HB4 := Lib.hid (HB3.out.trans (hb4.mono HB3.out.size))
  have HF4 := Lib.hid (HF3.out.keep hb4)
  have HR4 := Lib.hid (HR3.out.keep hb4)
  clear hb4 HB3 HF3 HR3
  have hck := (good_check HG.out H1.out (by have := HGR.out.1; omega) (fun r h => (HGR.out.2 r h).1)).1
  by_cases hu : 1 ≤ a ∧ a ≤ 4294967294
  rotate_left
  · have hu0 : uni a = false := by unfold uni; simp only [Bool.and_eq_false_iff, decide_eq_false_iff_not]; omega
    rw [look_nu hck hu0]
    clear hck hu0
    by_cases ha1 : a < 1
    · have d1 : decide (a < 1) = true := decide_eq_true ha1
      go_wp2_with fail
      go_ret
      exact ⟨rfl, HB4.out⟩
    · have d1 : decide (a < 1) = false := decide_eq_false ha1
      have d2 : decide (4294967294 < a) = true := decide_eq_true (by omega)
      go_wp2_with fail
      go_ret
      exact ⟨rfl, HB4.out⟩
  have hu1 : uni a = true := by simp only [uni, Bool.and_eq_true, decide_eq_true_eq]; exact hu
  obtain ⟨F, N, E, hlk⟩ : ∃ F N E, lookP fs rs a = (F, N, E) := ⟨_, _, _, rfl⟩
  have hlong := longest HG.out H1.out HGR.out hu1
  rw [lv hlk]
  rw [hlk] at hlong
  have HLONG := Lib.hid hlong
  have d1 : decide (a < 1) = false := decide_eq_false (by omega)
  have d2 : decide (4294967294 < a) = false := decide_eq_false (by omega)
  obtain ⟨p, c, rfl, hl⟩ := HF4.out.form
  obtain ⟨p2, c2, rfl, hl2⟩ := HR4.out.form
  have hcl : candL fs rs a = candF fs a fs.length ++ candR rs a rs.length := rfl
  obtain ⟨n, hn⟩ : ∃ n, fs.length = n := ⟨_, rfl⟩
  obtain ⟨m, hm⟩ : ∃ m, rs.length = m := ⟨_, rfl⟩
  rw [hn] at HF4 hl hcl ⊢
  rw [hm] at HR4 hl2 hcl ⊢
  have HCL := Lib.hid hcl
  have HN := Lib.hid hn
  have HM := Lib.hid hm
  have HA := Lib.hid ha
  clear hlk hlong hck hu1 hcl hn hm H1 ha
  go_wp2_with fail
  go_loopw [14, 15] (fun b i wr => ∃ (k : Nat) (o : Option Ro), k ≤ n ∧ i = .int .i64 (k : Int) ∧ b = .int .i64 (stB o) ∧ Hid (Below w4.heap.size w4 wr) ∧ Hid (bestC (candF fs a k) = o)) (fun _ i _ => n - (intOf i).toNat)
  case atStart => exact ⟨0, none, Nat.zero_le _, rfl, rfl, Below.refl _ _, rfl⟩
  case round =>
    obtain ⟨k, o, hk, rfl, rfl, HBk, HO⟩ := hrel
    obtain ⟨B, hB⟩ : ∃ B, stB o = B := ⟨_, rfl⟩
    rw [hB]
    have EB := Lib.hid hB
    clear hB
    rcases Nat.lt_or_ge k n with hkn | hkn
    · obtain ⟨f, hfk, hin, g, hp, hgl, c0, c1, c2', c3, c4⟩ := (HF4.out.keep HBk.out).at k hkn
      subst hp
      have HCt := fun w => Lib.hid (cont_any f.na f.nb a w hin.2.2.1.1 hin.2.2.1.2 hin.2.2.2.1.1 hin.2.2.2.1.2 HA.out.1 HA.out.2)
      have HS := Lib.hid (candF_succ hfk a)
      have hki : (k : Int) < (n : Int) := by omega
      clear hfk hin
      go_wp2_with fail
      refine (HCt _).out.mono ?_
      rintro e w5 ⟨rfl, hb5⟩
      have z3 := (hb5.cell (World.block_lt_of_cell? _ _ c3)).trans c3
      have HB5 := Lib.hid (HBk.out.trans (hb5.mono HBk.out.size))
      clear c0 c1 c2' c3 c4 hb5
      cases hcz : contZ f.na f.nb a
      · rw [hcz] at HS
        go_wp2_with fail
        go_roundw
        case rel => exact ⟨k + 1, o, by omega, by go_num, by rw [EB.out], HB5, Lib.hid (by rw [HS.out]; simpa using HO.out)⟩
        case measure => simp [intOf]; omega
      · rw [hcz] at HS
        have hnb := contZ_nb hcz
        have hst := Lib.hid (stB_step (o := o) (x := ⟨f.na, f.nb, 0, (k : Int)⟩) hnb.1)
        by_cases hlt : B < f.nb
        · have hgt : ¬ (f.nb < B) := by omega
          go_wp2_with fail
          go_roundw
          case rel => exact ⟨k + 1, stepC o ⟨f.na, f.nb, 0, (k : Int)⟩, by omega, by go_num, by rw [hst.out, EB.out, if_pos hlt], HB5, by rw [HS.out, if_pos trivial, bestC_snoc, HO.out]; exact rfl⟩
          case measure => simp [intOf]; omega
        · have hst2 : stB (stepC o ⟨f.na, f.nb, 0, (k : Int)⟩) = B := by rw [hst.out, EB.out, if_neg hlt]
          have HST2 := Lib.hid hst2
          clear hst2
          go_wp2_with fail
          go_roundw
          case rel => exact ⟨k + 1, stepC o ⟨f.na, f.nb, 0, (k : Int)⟩, by omega, by go_num, by rw [HST2.out], HB5, by rw [HS.out, if_pos trivial, bestC_snoc, HO.out]; exact rfl⟩
          case measure => simp [intOf]; omega
    · obtain rfl : k = n := by omega
      go_wp2_with fail
      go_loopw [14, 16] (fun b i wr => ∃ (j : Nat) (o : Option Ro), j ≤ m ∧ i = .int .i64 (j : Int) ∧ b = .int .i64 (stB o) ∧ Hid (Below w4.heap.size w4 wr) ∧ Hid (bestC (candF fs a k ++ candR rs a j) = o)) (fun _ i _ => m - (intOf i).toNat)
      case atStart => exact ⟨0, o, Nat.zero_le _, rfl, by rw [EB.out], HBk, Lib.hid (by rw [show candR rs a 0 = [] from rfl, List.append_nil]; exact HO.out)⟩
      case round =>
        clear EB HO
        obtain ⟨j, o, hj, rfl, rfl, HBj, HO⟩ := hrel
        obtain ⟨B, hB⟩ : ∃ B, stB o = B := ⟨_, rfl⟩
        rw [hB]
        have EB := Lib.hid hB
        clear hB
        rcases Nat.lt_or_ge j m with hjm | hjm
        · obtain ⟨r, hrj, hin, g, hp, hgl, c0, c1, c2', c3⟩ := (HR4.out.keep HBj.out).at j hjm
          subst hp
          have HCt := fun w => Lib.hid (cont_any r.na r.nb a w hin.1.1 hin.1.2 hin.2.1.1 hin.2.1.2 HA.out.1 HA.out.2)
          have HS := Lib.hid (candR_succ hrj a)
          have hji : (j : Int) < (m : Int) := by omega
          clear hrj hin
          go_wp2_with fail
          refine (HCt _).out.mono ?_
          rintro e w5 ⟨rfl, hb5⟩
          have z1 := (hb5.cell (World.block_lt_of_cell? _ _ c1)).trans c1
          have HB5 := Lib.hid (HBj.out.trans (hb5.mono HBj.out.size))
          clear c0 c1 c2' c3 hb5
          cases hcz : contZ r.na r.nb a
          · rw [hcz] at HS
            go_wp2_with fail
            go_roundw
            case rel => exact ⟨j + 1, o, by omega, by go_num, by rw [EB.out], HB5, Lib.hid (by rw [HS.out]; simpa using HO.out)⟩
            case measure => simp [intOf]; omega
          · rw [hcz] at HS
            have hnb := contZ_nb hcz
            have hst := Lib.hid (stB_step (o := o) (x := r) hnb.1)
            by_cases hlt : B < r.nb
            · have hgt : ¬ (r.nb < B) := by omega
              go_wp2_with fail
              go_roundw
              case rel => exact ⟨j + 1, stepC o r, by omega, by go_num, by rw [hst.out, EB.out, if_pos hlt], HB5, by rw [HS.out, if_pos trivial, ← List.append_assoc, bestC_snoc, HO.out]; exact rfl⟩
              case measure => simp [intOf]; omega
            · have hst2 : stB (stepC o r) = B := by rw [hst.out, EB.out, if_neg hlt]
              have HST2 := Lib.hid hst2
              clear hst2
              go_wp2_with fail
              go_roundw
              case rel => exact ⟨j + 1, stepC o r, by omega, by go_num, by rw [HST2.out], HB5, by rw [HS.out, if_pos trivial, ← List.append_assoc, bestC_snoc, HO.out]; exact rfl⟩
              case measure => simp [intOf]; omega
        · obtain rfl : j = m := by omega
          have hall : bestC (candL fs rs a) = o := by rw [HCL.out]; exact HO.out
          have hlg := HLONG.out
          rw [hall] at hlg
          have HALL := Lib.hid hall
          clear hall HLONG HCL HO
          rcases hlg with ⟨ho, hl'⟩ | ⟨cc, i, e, N', ho, hl', he, hnb, hsel, hfin⟩
          · cases hl'
            have hB1 : B = -1 := by rw [← EB.out, ho]; rfl
            subst hB1
            clear EB ho
            go_wp2_with fail
            go_ret
            exact ⟨rfl, HB4.out.trans (HBj.out.mono HB4.out.size)⟩
          · cases hl'
            have hB1 : B = cc.nb := by rw [← EB.out, ho]; rfl
            rw [← hB1] at hnb hsel
            have hik : i < k := by rw [← HN.out]; exact (List.getElem?_eq_some_iff.1 he).1
            obtain ⟨e', he', hie, g, hgp, hgl, d0, d1', d2', d3, d4⟩ := (HF4.out.keep HBj.out).at i hik
            obtain rfl : e = e' := by rw [he] at he'; cases he'; rfl
            subst hgp
            have HSEL := Lib.hid hsel
            have HFIN := Lib.hid hfin
            have HHE := Lib.hid he
            have HIE := Lib.hid hie
            have HCe := fun w => Lib.hid (cont_any e.na e.nb a w hie.2.2.1.1 hie.2.2.1.2 hie.2.2.2.1.1 hie.2.2.2.1.2 HA.out.1 HA.out.2)
            have hii : (i : Int) < (k : Int) := by omega
            have hi0 : decide ((i : Int) < 0) = false := decide_eq_false (by omega)
            have hi1 : decide ((k : Int) ≤ (i : Int)) = false := decide_eq_false (by omega)
            have hbn : (B < 0) = False := eq_false (by omega)
            clear hsel hfin he he' hie EB ho hB1
            go_upto_region 23 with fail
            go_cut [17] (fun v wx => v = .bool ((e.nb == B) && ((N == a) && contZ e.na e.nb a)) ∧ Hid (Below w4.heap.size w4 wx))
            case first =>
              cases hx1 : (e.nb == B)
              · go_wp2_with fail
                go_meet
                exact ⟨by first | (rw [hx1]; done) | (rw [hx1]; rfl), HBj⟩
              cases hx2 : (N == a)
              · go_wp2_with fail
                go_meet
                exact ⟨by first | (rw [hx1, hx2]; done) | (rw [hx1, hx2]; rfl), HBj⟩
              go_wp2_with fail
              refine (HCe _).out.mono ?_
              rintro e9 w6 ⟨rfl, hb6⟩
              have HB6 := Lib.hid (HBj.out.trans (hb6.mono HBj.out.size))
              clear hb6
              go_wp2_with fail
              go_meet
              exact ⟨by first | (rw [hx1, hx2]; done) | (rw [hx1, hx2]; rfl), HB6⟩
            case rest =>
              obtain ⟨rfl, HBc⟩ := hcut
              generalize hok0 : ((e.nb == B) && ((N == a) && contZ e.na e.nb a)) = ok0
              rw [hok0] at HSEL
              clear hok0 HCe d0 d1' d2' d3 d4
              go_wp2_with fail
              go_loopw [17, 18] (fun o i9 wt => ∃ t : Nat, t ≤ j ∧ i9 = .int .i64 (t : Int) ∧ o = .bool (ok0 || (rs.take t).any (isSel B a (i : Int) N)) ∧ Hid (Below w4.heap.size w4 wt)) (fun _ i9 _ => j - (intOf i9).toNat)
              case atStart => exact ⟨0, Nat.zero_le _, rfl, by simp, HBc⟩
              case round =>
                obtain ⟨t, ht', rfl, rfl, HBt⟩ := hrel
                rcases Nat.lt_or_ge t j with htj | htj
                · obtain ⟨r, hrt, hin, g9, hp9, hgl9, c0, c1, c2', c3⟩ := (HR4.out.keep HBt.out).at t htj
                  subst hp9
                  have hb1 : Below wr.heap.size wr (wr.alloc (ro r)) := (Below.refl _ wr).alloc (Nat.le_refl _) _
                  have HB7 := Lib.hid (HBt.out.trans (hb1.mono HBt.out.size))
                  obtain ⟨q0, q1, q2, q3⟩ := blk4 wr r
                  have HCt := fun w => Lib.hid (cont_any r.na r.nb a w hin.1.1 hin.1.2 hin.2.1.1 hin.2.1.2 HA.out.1 HA.out.2)
                  have hsn := any_succ hrt (isSel B a (i : Int) N)
                  have hti : (t : Int) < (j : Int) := by omega
                  generalize hq : (ok0 || (rs.take t).any (isSel B a (i : Int) N)) = q at *
                  have HSN : Hid ((ok0 || (rs.take (t + 1)).any (isSel B a (i : Int) N)) = (q || isSel B a (i : Int) N r)) := Lib.hid (by rw [hsn, ← hq, Bool.or_assoc])
                  clear hrt hin hb1 hsn hq
                  cases q
                  rotate_left
                  · go_wp2_with fail
                    go_roundw
                    case rel => exact ⟨t + 1, by omega, by go_num, by rw [HSN.out]; simp, HB7⟩
                    case measure => simp [intOf]; omega
                  cases hx1 : (r.nb == B)
                  · have hs : isSel B a (i : Int) N r = false := by unfold isSel; rw [hx1]; rfl
                    have HS' := Lib.hid hs
                    clear hs
                    go_wp2_with fail
                    go_roundw
                    case rel => exact ⟨t + 1, by omega, by go_num, by rw [HSN.out, HS'.out]; rfl, HB7⟩
                    case measure => simp [intOf]; omega
                  have hs1 : isSel B a (i : Int) N r = (contZ r.na r.nb a && ((r.face == (i : Int)) && ((r.via == N) || ((r.via == 0) && (N == a))))) := by unfold isSel; rw [hx1]; rfl
                  have HS1 := Lib.hid hs1
                  clear hs1
                  go_wp2_with fail
                  refine (HCt _).out.mono ?_
                  rintro e9 w7 ⟨rfl, hb7⟩
                  have z0 := (hb7.cell (World.block_lt_of_cell? _ _ q0)).trans q0
                  have z1 := (hb7.cell (World.block_lt_of_cell? _ _ q1)).trans q1
                  have z2 := (hb7.cell (World.block_lt_of_cell? _ _ q2)).trans q2
                  have z3 := (hb7.cell (World.block_lt_of_cell? _ _ q3)).trans q3
                  have HB8 := Lib.hid (HB7.out.trans (hb7.mono HB7.out.size))
                  clear q0 q1 q2 q3 hb7 c0 c1 c2' c3 HB7 HBt HCt
                  generalize contZ r.na r.nb a = x2 at *
                  cases x2
                  · go_wp2_with fail
                    go_roundw
                    case rel => exact ⟨t + 1, by omega, by go_num, by rw [HSN.out, HS1.out]; rfl, HB8⟩
                    case measure => simp [intOf]; omega
                  cases hx3 : (r.face == (i : Int))
                  · go_wp2_with fail
                    go_roundw
                    case rel => exact ⟨t + 1, by omega, by go_num, by rw [HSN.out, HS1.out, hx3]; rfl, HB8⟩
                    case measure => simp [intOf]; omega
                  cases hx4 : (r.via == N)
                  rotate_left
                  · go_wp2_with fail
                    go_roundw
                    case rel => exact ⟨t + 1, by omega, by go_num, by rw [HSN.out, HS1.out, hx3, hx4]; rfl, HB8⟩
                    case measure => simp [intOf]; omega
                  cases hx5 : (r.via == 0)
                  · go_wp2_with fail
                    go_roundw
                    case rel => exact ⟨t + 1, by omega, by go_num, by rw [HSN.out, HS1.out, hx3, hx4, hx5]; rfl, HB8⟩
                    case measure => simp [intOf]; omega
                  cases hx6 : (N == a)
                  · go_wp2_with fail
                    go_roundw
                    case rel => exact ⟨t + 1, by omega, by go_num, by rw [HSN.out, HS1.out, hx3, hx4, hx5, hx6]; rfl, HB8⟩
                    case measure => simp [intOf]; omega
                  · go_wp2_with fail
                    go_roundw
                    case rel => exact ⟨t + 1, by omega, by go_num, by rw [HSN.out, HS1.out, hx3, hx4, hx5, hx6]; rfl, HB8⟩
                    case measure => simp [intOf]; omega
                · obtain rfl : t = j := by omega
                  have hall2 : rs.take t = rs := List.take_of_length_le (by rw [HM.out]; exact Nat.le_refl _)
                  rw [hall2, HSEL.out]
                  clear hall2
                  obtain ⟨e', he', hie, g9, hgp, hgl9, d0, d1', d2', d3, d4⟩ := (HF4.out.keep HBt.out).at i hik
                  obtain rfl : e = e' := by have := HHE.out; rw [this] at he'; cases he'; rfl
                  cases hgp
                  have hfin := HFIN.out
                  clear he' hie
                  cases hx2 : (N == a)
                  · rw [hx2] at hfin
                    have hcn : contZ e.na e.nb N = true := by simpa using hfin
                    have hNr : InI N := by
                      unfold contZ validZ at hcn
                      simp only [Bool.and_eq_true, decide_eq_true_eq] at hcn
                      unfold InI; omega
                    have HCn := fun w => Lib.hid (cont_any e.na e.nb N w HIE.out.2.2.1.1 HIE.out.2.2.1.2 HIE.out.2.2.2.1.1 HIE.out.2.2.2.1.2 hNr.1 hNr.2)
                    rw [hcn] at HCn
                    clear hfin hcn hNr
                    go_wp2_with fail
                    refine (HCn _).out.mono ?_
                    rintro e9 w7 ⟨rfl, hb7⟩
                    have HB8 := HBt.out.trans (hb7.mono HBt.out.size)
                    go_wp2_with fail
                    go_ret
                    exact ⟨rfl, HB4.out.trans (HB8.mono HB4.out.size)⟩
                  · clear hfin
                    go_wp2_with fail
                    go_ret
                    exact ⟨rfl, HB4.out.trans (HBt.out.mono HB4.out.size)⟩
end Go.Proofs.Ytgfcpimklmgnbaa

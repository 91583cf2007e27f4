/- Contracts of Check, the program's and the document's. -/
import Derived.Test.YtgfcpimklmgnbaaRoC
namespace Go.Proofs.Ytgfcpimklmgnbaa
open Go.RowKit
set_option linter.unusedVariables false

def chE (fs : List Fc) (rs : List Ro) : Int := if checkP fs rs then 0 else 90
theorem chE_no {fs : List Fc} {rs : List Ro} (h : checkP fs rs = false) : chE fs rs = 90 := by unfold chE; rw [h]; rfl
theorem check_len {fs : List Fc} {rs : List Ro} (h : ¬ (1 ≤ fs.length ∧ fs.length ≤ 4 ∧ rs.length ≤ 16)) : chE fs rs = 90 := by
  apply chE_no
  unfold checkP
  rcases (by omega : ¬ 1 ≤ fs.length ∨ ¬ fs.length ≤ 4 ∨ ¬ rs.length ≤ 16) with h | h | h
  · rw [decide_eq_false h]; rfl
  · rw [decide_eq_false h]; simp
  · rw [decide_eq_false h]; simp
theorem check_face {fs : List Fc} {rs : List Ro} {j : Nat} {f : Fc} (hj : fs[j]? = some f) (h : ¬ (okF f = true ∧ locI fs f.addr = (j : Int))) : chE fs rs = 90 := by
  apply chE_no
  have : okFs fs = false := by
    rw [← Bool.not_eq_true]
    intro h1
    exact h (okFs_iff.1 h1 j f hj)
  unfold checkP; rw [this]; simp
theorem check_route {fs : List Fc} {rs : List Ro} {j : Nat} {r : Ro} (hj : rs[j]? = some r) (h : okR fs r = false) : chE fs rs = 90 := by
  apply chE_no
  have : rs.all (okR fs) = false := by
    rw [← Bool.not_eq_true]
    intro h1
    rw [okRs_iff.1 h1 j r hj] at h
    cases h
  unfold checkP; rw [this]; simp
theorem check_yes {fs : List Fc} {rs : List Ro} (h1 : 1 ≤ fs.length) (h2 : fs.length ≤ 4) (h3 : rs.length ≤ 16) (h4 : ∀ (i : Nat) (f : Fc), i < fs.length → fs[i]? = some f → okF f = true ∧ locI fs f.addr = (i : Int)) (h5 : ∀ (i : Nat) (r : Ro), i < rs.length → rs[i]? = some r → okR fs r = true) : checkP fs rs = true ∧ chE fs rs = 0 := by
  have : checkP fs rs = true := by
    unfold checkP
    rw [decide_eq_true h1, decide_eq_true h2, decide_eq_true h3, okFs_iff.2 fun i f hf => h4 i f (List.getElem?_eq_some_iff.1 hf).1 hf, okRs_iff.2 fun i r hr => h5 i r (List.getElem?_eq_some_iff.1 hr).1 hr]; rfl
  exact ⟨this, by unfold chE; rw [this]; rfl⟩
theorem loc_le {fs : List Fc} {j : Nat} {f : Fc} (hj : fs[j]? = some f) : 0 ≤ locI fs f.addr ∧ locI fs f.addr ≤ (j : Int) := by
  obtain ⟨i, hi, hl⟩ := locN_le hj rfl
  unfold locI; rw [hi]; simp only; omega

set_option maxRecDepth 20000 in
set_option maxHeartbeats 3200000 in
theorem check_any (fs : List Fc) (rs : List Ro) (vf vr : Value) (w : World) (hf : FsAt w vf fs) (hr : RsAt w vr rs) :
    Calls Try.prog 12 #[vf, vr] w fun e w' => e = .returned (.int .i64 (chE fs rs)) ∧ Below w.heap.size w w' := by
  obtain ⟨p, c, rfl, hl⟩ := hf.form
  obtain ⟨p2, c2, rfl, hl2⟩ := hr.form
  obtain ⟨n, hn⟩ : ∃ n, fs.length = n := ⟨_, rfl⟩
  obtain ⟨m, hm⟩ : ∃ m, rs.length = m := ⟨_, rfl⟩
  have hno := @check_len fs rs
  rw [hn] at hf hl hno ⊢
  rw [hm] at hr hl2 hno ⊢
  have HN := Lib.hid hn
  have HM := Lib.hid hm
  have HF := Lib.hid hf
  have HR := Lib.hid hr
  have HW := Lib.hid (within_any (n : Int) 1 4)
  clear hf hr hn hm
  by_cases h14 : 1 ≤ n ∧ n ≤ 4
  rotate_left
  · have hw : (decide (1 ≤ (n : Int)) && decide ((n : Int) ≤ 4)) = false := by simp only [Bool.and_eq_false_iff, decide_eq_false_iff_not]; omega
    rw [hw] at HW
    rw [hno (by omega)]
    clear hw hno
    go_enter Try.func12, Try.ntmps12
    go_wp2_with fail
    refine (HW.out _).mono ?_
    rintro e w' ⟨rfl, rfl⟩
    go_wp2_with fail
    go_ret
    exact ⟨rfl, Below.refl _ _⟩
  have hw : (decide (1 ≤ (n : Int)) && decide ((n : Int) ≤ 4)) = true := by simp only [Bool.and_eq_true, decide_eq_true_eq]; omega
  rw [hw] at HW
  clear hw
  by_cases h16 : m ≤ 16
  rotate_left
  · rw [hno (by omega)]
    have hmi : (16 : Int) < (m : Int) := by omega
    clear hno
    go_enter Try.func12, Try.ntmps12
    go_wp2_with fail
    refine (HW.out _).mono ?_
    rintro e w' ⟨rfl, rfl⟩
    go_wp2_with fail
    go_ret
    exact ⟨rfl, Below.refl _ _⟩
  have hmi : decide ((16 : Int) < (m : Int)) = false := decide_eq_false (by omega)
  have H14 := Lib.hid h14
  clear hno h14
  go_enter Try.func12, Try.ntmps12
  go_wp2_with fail
  refine (HW.out _).mono ?_
  rintro e w' ⟨rfl, rfl⟩
  go_wp2_with fail
  clear HW hmi
  go_loopw [22] (fun i wr => ∃ j : Nat, j ≤ n ∧ i = .int .i64 (j : Int) ∧ Hid (Below w.heap.size w wr) ∧ Hid (∀ (i : Nat) (f : Fc), i < j → fs[i]? = some f → okF f = true ∧ locI fs f.addr = (i : Int))) (fun i _ => n - (intOf i).toNat)
  case atStart => exact ⟨0, Nat.zero_le _, rfl, Below.refl _ _, fun i f h => by omega⟩
  case round =>
    obtain ⟨j, hj, rfl, HB, HL⟩ := hrel
    rcases Nat.lt_or_ge j n with hjn | hjn
    · obtain ⟨f, hfj, hin, g, hp, hg, c0, c1, c2, c3, c4⟩ := (HF.out.keep HB.out).at j hjn
      have hb1 : Below wr.heap.size wr (wr.alloc (fo f)) := (Below.refl _ wr).alloc (Nat.le_refl _) _
      have HF1 := Lib.hid ((HF.out.keep HB.out).keep hb1)
      subst hp
      obtain ⟨q0, q1, q2, q3, q4⟩ := blk5 wr f
      have HI := fun w h => Lib.hid (isl_any fs f.addr (.slice (some ⟨g, 0, none⟩) n c) w h)
      have HV := Lib.hid (vif_any f hin)
      have HB1 := Lib.hid (HB.out.trans (hb1.mono HB.out.size))
      have hbad := Lib.hid (@check_face fs rs j f hfj)
      have HFJ := Lib.hid hfj
      have hji : (j : Int) < (n : Int) := by omega
      clear hfj hin hb1
      go_wp2_with fail
      refine (HI _ HF1.out).out.mono ?_
      rintro e w3 ⟨rfl, hb3⟩
      have z0 := (hb3.cell (World.block_lt_of_cell? _ _ q0)).trans q0
      have z1 := (hb3.cell (World.block_lt_of_cell? _ _ q1)).trans q1
      have z2 := (hb3.cell (World.block_lt_of_cell? _ _ q2)).trans q2
      have z3 := (hb3.cell (World.block_lt_of_cell? _ _ q3)).trans q3
      have z4 := (hb3.cell (World.block_lt_of_cell? _ _ q4)).trans q4
      have HB3 := Lib.hid (HB1.out.trans (hb3.mono HB1.out.size))
      clear q0 q1 q2 q3 q4 c0 c1 c2 c3 c4 hb3 HB1 HF1
      obtain ⟨li, hli⟩ : ∃ li, locI fs f.addr = li := ⟨_, rfl⟩
      rw [hli] at hbad ⊢
      have HLI := Lib.hid hli
      clear hli
      by_cases hlj : li = (j : Int)
      · subst hlj
        have e0 : ((j : Int) != (j : Int)) = false := by simp
        go_wp2_with fail
        refine (HV.out _).mono ?_
        rintro e w4 ⟨rfl, hb4⟩
        have HB4 := Lib.hid (HB3.out.trans (hb4.mono HB3.out.size))
        clear hb4
        cases hok : okF f
        · go_wp2_with fail
          go_ret
          exact ⟨by rw [hbad.out (by rw [hok]; simp)]; rfl, HB4.out⟩
        · go_wp2_with fail
          go_roundw
          case rel => exact ⟨j + 1, by omega, by go_num, HB4.out, fun i f' hi hfi => by
            rcases Nat.lt_or_ge i j with h | h
            · exact HL.out i f' h hfi
            · obtain rfl : i = j := by omega
              rw [HFJ.out] at hfi
              cases hfi
              exact ⟨hok, HLI.out⟩⟩
          case measure => simp [intOf]; omega
      · have e0 : (li == (j : Int)) = false := by simpa using hlj
        have e1 : (li != (j : Int)) = true := by simpa using hlj
        go_wp2_with fail
        go_ret
        exact ⟨by rw [hbad.out (fun h => hlj h.2)]; rfl, HB3.out⟩
    · obtain rfl : j = n := by omega
      have HRr := Lib.hid (HR.out.keep HB.out)
      go_wp2_with fail
      go_loopw [45] (fun i wt => ∃ k : Nat, k ≤ m ∧ i = .int .i64 (k : Int) ∧ Hid (Below w.heap.size w wt) ∧ Hid (∀ (i : Nat) (r : Ro), i < k → rs[i]? = some r → okR fs r = true)) (fun i _ => m - (intOf i).toNat)
      case atStart => exact ⟨0, Nat.zero_le _, rfl, HB, fun i f h => by omega⟩
      case round =>
        obtain ⟨k, hk, rfl, HBt, HLt⟩ := hrel
        rcases Nat.lt_or_ge k m with hkm | hkm
        · obtain ⟨r, hrk, hin, g, hp, hg, c0, c1, c2, c3⟩ := (HR.out.keep HBt.out).at k hkm
          have hb1 : Below wr.heap.size wr (wr.alloc (ro r)) := (Below.refl _ wr).alloc (Nat.le_refl _) _
          have HFt := Lib.hid ((HF.out.keep HBt.out).keep hb1)
          have HBu := Lib.hid (HBt.out.trans (hb1.mono HBt.out.size))
          obtain ⟨q0, q1, q2, q3⟩ := blk4 wr r
          clear hb1
          subst hp
          have HV := fun w h => Lib.hid (vr_any fs r (.slice p j c) w h hin)
          have hbad := Lib.hid (@check_route fs rs k r hrk)
          have HRK := Lib.hid hrk
          have hki : (k : Int) < (m : Int) := by omega
          clear hrk hin
          go_wp2_with fail
          refine (HV _ HFt.out).out.mono ?_
          rintro e w4 ⟨rfl, hb4⟩
          have HB4 := Lib.hid (HBu.out.trans (hb4.mono HBu.out.size))
          clear hb4
          cases hok : okR fs r
          · go_wp2_with fail
            go_ret
            exact ⟨by rw [hbad.out hok]; rfl, HB4.out⟩
          · go_wp2_with fail
            go_roundw
            case rel => exact ⟨k + 1, by omega, by go_num, HB4.out, fun i r' hi hri => by
              rcases Nat.lt_or_ge i k with h | h
              · exact HLt.out i r' h hri
              · obtain rfl : i = k := by omega
                rw [HRK.out] at hri
                cases hri
                exact hok⟩
            case measure => simp [intOf]; omega
        · obtain rfl : k = m := by omega
          go_wp2_with fail
          go_ret
          exact ⟨by rw [(check_yes (by rw [HN.out]; exact H14.out.1) (by rw [HN.out]; exact H14.out.2) (by rw [HM.out]; exact h16) (by rw [HN.out]; exact HL.out) (by rw [HM.out]; exact HLt.out)).2]; rfl, HBt.out⟩

set_option maxRecDepth 20000 in
set_option maxHeartbeats 3200000 in
theorem rcheck_any (fs : List Fc) (rs : List Ro) (vf vr : Value) (w : World) (hf : FsAt w vf fs) (hr : RsAt w vr rs) :
    Calls Try.prog 13 #[vf, vr] w fun e w' => e = .returned (.int .i64 (chE fs rs)) ∧ Below w.heap.size w w' := by
  obtain ⟨p, c, rfl, hl⟩ := hf.form
  obtain ⟨p2, c2, rfl, hl2⟩ := hr.form
  obtain ⟨n, hn⟩ : ∃ n, fs.length = n := ⟨_, rfl⟩
  obtain ⟨m, hm⟩ : ∃ m, rs.length = m := ⟨_, rfl⟩
  have hno := @check_len fs rs
  rw [hn] at hf hl hno ⊢
  rw [hm] at hr hl2 hno ⊢
  have HN := Lib.hid hn
  have HM := Lib.hid hm
  have HF := Lib.hid hf
  have HR := Lib.hid hr
  clear hf hr hn hm
  by_cases h1 : (n : Int) < 1
  · rw [hno (by omega)]
    clear hno
    have d1 : decide ((n : Int) < 1) = true := decide_eq_true h1
    go_enter Try.func13, Try.ntmps13
    go_wp2_with fail
    go_ret
    exact ⟨rfl, Below.refl _ _⟩
  have d1 : decide ((n : Int) < 1) = false := decide_eq_false h1
  by_cases h4 : (4 : Int) < (n : Int)
  · rw [hno (by omega)]
    clear hno
    go_enter Try.func13, Try.ntmps13
    go_wp2_with fail
    go_ret
    exact ⟨rfl, Below.refl _ _⟩
  have d4 : decide ((4 : Int) < (n : Int)) = false := decide_eq_false h4
  by_cases h16 : m ≤ 16
  rotate_left
  · rw [hno (by omega)]
    have hmi : (16 : Int) < (m : Int) := by omega
    clear hno
    go_enter Try.func13, Try.ntmps13
    go_wp2_with fail
    go_ret
    exact ⟨rfl, Below.refl _ _⟩
  have hmi : decide ((16 : Int) < (m : Int)) = false := decide_eq_false (by omega)
  have H14 : Hid (1 ≤ n ∧ n ≤ 4) := Lib.hid (by omega)
  clear hno h1 h4
  go_enter Try.func13, Try.ntmps13
  go_wp2_with fail
  clear hmi d1 d4
  go_loopw [5] (fun i wr => ∃ j : Nat, j ≤ n ∧ i = .int .i64 (j : Int) ∧ Hid (Below w.heap.size w wr) ∧ Hid (∀ (i : Nat) (f : Fc), i < j → fs[i]? = some f → okF f = true ∧ locI fs f.addr = (i : Int))) (fun i _ => n - (intOf i).toNat)
  case atStart => exact ⟨0, Nat.zero_le _, rfl, Below.refl _ _, fun i f h => by omega⟩
  case round =>
    obtain ⟨j, hj, rfl, HB, HL⟩ := hrel
    rcases Nat.lt_or_ge j n with hjn | hjn
    · obtain ⟨f, hfj, hin, g, hp, hg, c0, c1, c2, c3, c4⟩ := (HF.out.keep HB.out).at j hjn
      have HF1 := Lib.hid (HF.out.keep HB.out)
      subst hp
      have HI := fun w h => Lib.hid (risl_any fs f.addr (.slice (some ⟨g, 0, none⟩) n c) w h)
      have HV := Lib.hid (rvif_any f hin)
      have hbad := Lib.hid (@check_face fs rs j f hfj)
      have hle := loc_le hfj
      have HFJ := Lib.hid hfj
      have hji : (j : Int) < (n : Int) := by omega
      clear hfj hin
      go_wp2_with fail
      refine (HI _ HF1.out).out.mono ?_
      rintro e w3 ⟨rfl, rfl⟩
      obtain ⟨li, hli⟩ : ∃ li, locI fs f.addr = li := ⟨_, rfl⟩
      rw [hli] at hbad hle ⊢
      have HLI := Lib.hid hli
      clear hli
      go_wp2_with fail
      refine (HV.out _).mono ?_
      rintro e w4 ⟨rfl, hb4⟩
      have HB4 := Lib.hid (HB.out.trans (hb4.mono HB.out.size))
      clear hb4
      cases hok : okF f
      · go_wp2_with fail
        go_ret
        exact ⟨by rw [hbad.out (by rw [hok]; simp)]; rfl, HB4.out⟩
      by_cases hlj : li < (j : Int)
      · go_wp2_with fail
        go_ret
        exact ⟨by rw [hbad.out (fun h => by have := h.2; omega)]; rfl, HB4.out⟩
      · obtain rfl : li = (j : Int) := by omega
        go_wp2_with fail
        go_roundw
        case rel => exact ⟨j + 1, by omega, by go_num, HB4.out, fun i f' hi hfi => by
          rcases Nat.lt_or_ge i j with h | h
          · exact HL.out i f' h hfi
          · obtain rfl : i = j := by omega
            rw [HFJ.out] at hfi
            cases hfi
            exact ⟨hok, HLI.out⟩⟩
        case measure => simp [intOf]; omega
    · obtain rfl : j = n := by omega
      go_wp2_with fail
      go_loopw [8] (fun i wt => ∃ k : Nat, k ≤ m ∧ i = .int .i64 (k : Int) ∧ Hid (Below w.heap.size w wt) ∧ Hid (∀ (i : Nat) (r : Ro), i < k → rs[i]? = some r → okR fs r = true)) (fun i _ => m - (intOf i).toNat)
      case atStart => exact ⟨0, Nat.zero_le _, rfl, HB, fun i f h => by omega⟩
      case round =>
        obtain ⟨k, hk, rfl, HBt, HLt⟩ := hrel
        rcases Nat.lt_or_ge k m with hkm | hkm
        · obtain ⟨r, hrk, hin, g, hp, hg, c0, c1, c2, c3⟩ := (HR.out.keep HBt.out).at k hkm
          have HFt := Lib.hid (HF.out.keep HBt.out)
          have HBu := HBt
          subst hp
          have HV := fun w h => Lib.hid (rr_any fs r (.slice p j c) w h hin)
          have hbad := Lib.hid (@check_route fs rs k r hrk)
          have HRK := Lib.hid hrk
          have hki : (k : Int) < (m : Int) := by omega
          clear hrk hin
          go_wp2_with fail
          refine (HV _ HFt.out).out.mono ?_
          rintro e w4 ⟨rfl, hb4⟩
          have HB4 := Lib.hid (HBu.out.trans (hb4.mono HBu.out.size))
          clear hb4
          cases hok : okR fs r
          · go_wp2_with fail
            go_ret
            exact ⟨by rw [hbad.out hok]; rfl, HB4.out⟩
          · go_wp2_with fail
            go_roundw
            case rel => exact ⟨k + 1, by omega, by go_num, HB4.out, fun i r' hi hri => by
              rcases Nat.lt_or_ge i k with h | h
              · exact HLt.out i r' h hri
              · obtain rfl : i = k := by omega
                rw [HRK.out] at hri
                cases hri
                exact hok⟩
            case measure => simp [intOf]; omega
        · obtain rfl : k = m := by omega
          go_wp2_with fail
          go_ret
          exact ⟨by rw [(check_yes (by rw [HN.out]; exact H14.out.1) (by rw [HN.out]; exact H14.out.2) (by rw [HM.out]; exact h16) (by rw [HN.out]; exact HL.out) (by rw [HM.out]; exact HLt.out)).2]; rfl, HBt.out⟩
end Go.Proofs.Ytgfcpimklmgnbaa

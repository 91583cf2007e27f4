/- The walk of the statement WireChecksumOrder. -/
import Derived.Test.YtolohjinjpegmaaSumOrder
import Derived.BigRegion
import Derived.Deep.DeepCutAuto
namespace Go.Proofs.Ytolohjinjpegmaa
open Go.RowKit

set_option maxRecDepth 100000 in
set_option maxHeartbeats 4000000 in
theorem sumOrder_walk (a0 : ByteArray) (a1 a2 a3 : Int) (w0 : a0.size ≤ maxLen) (w1 : (Lit.int .i64 a1).wf = true) (w2 : (Lit.int .i64 a2).wf = true) (w3 : (Lit.int .i64 a3).wf = true) (w : World) :
    Calls Try.prog 6 #[.string a0, .int .i64 a1, .int .i64 a2, .int .i64 a3] w fun e w' => e = .returned (.bool true) ∧ Below w.heap.size w w' := by
  unfold maxLen at w0
  obtain ⟨l1, u1⟩ := i64_bd w1
  obtain ⟨l2, u2⟩ := i64_bd w2
  obtain ⟨l3, u3⟩ := i64_bd w3
  clear w1 w2 w3
  go_enter Try.func6, Try.ntmps6
  go_wp2_with fail
  refine (sanity_any _).mono ?_
  rintro e w1 ⟨rfl, hb1⟩
  go_upto_region 2 with fail
  go_cut [10] (fun s0 wx => ∃ (t : ByteArray) (n : Nat), s0 = .string t ∧ t.size = 2 * n ∧ t.size ≤ 400 ∧ w1 = wx)
  case first =>
    go_wp2_with fail
    all_goals go_meet
    · exact ⟨_, 200, rfl, by simp only [ByteArray.size_extract]; omega, by simp only [ByteArray.size_extract]; omega, rfl⟩
    · exact ⟨_, a0.size / 2, rfl, by simp only [ByteArray.size_extract]; omega, by simp only [ByteArray.size_extract]; omega, rfl⟩
  case rest =>
    obtain ⟨t, n, rfl, hn, hs, rfl⟩ := hcut
    by_cases hz : t.size = 0
    · have t1 : ((t.size : Int) == 0) = true := by rw [beq_iff_eq]; omega
      have h0 : ∀ w, Calls Try.prog 14 #[.string ⟨#[]⟩] w fun e w' => e = .returned (.int .i64 65535) ∧ Below w.heap.size w w' := fun w =>
        (sum_any ⟨#[]⟩ (by decide) w).mono fun _ _ ⟨h1, h2⟩ => ⟨by rw [h1]; exact ret_int (by decide +kernel), h2⟩
      have H0 := Lib.hid h0
      clear h0 hz hn
      go_wp2_with fail
      refine (H0.out _).mono ?_
      rintro e w2 ⟨rfl, hb2⟩
      go_wp2_with fail
      go_ret
      exact ⟨rfl, hb1.trans (hb2.mono hb1.size)⟩
    · have t1 : ((t.size : Int) == 0) = false := by rw [beq_eq_false_iff_ne]; omega
      have hd : (t.size : Int) / 2 = (n : Int) := by omega
      obtain ⟨p1, p2⟩ := pickZ_bd a1 (n : Int) (by omega)
      obtain ⟨p3, p4⟩ := pickZ_bd a2 (n : Int) (by omega)
      obtain ⟨p5, p6⟩ := pickZ_bd a3 9 (by omega)
      obtain ⟨i0, hi0⟩ := Int.eq_ofNat_of_zero_le p1
      obtain ⟨k0, hk0⟩ := Int.eq_ofNat_of_zero_le p3
      obtain ⟨z, hz0⟩ := Int.eq_ofNat_of_zero_le p5
      rw [hi0] at p2
      rw [hk0] at p4
      rw [hz0] at p6
      obtain ⟨i, hi⟩ : ∃ i, 2 * i0 = i := ⟨_, rfl⟩
      obtain ⟨k, hk⟩ : ∃ k, 2 * k0 = k := ⟨_, rfl⟩
      have hi2 : (2 : Int) * (i0 : Int) = (i : Int) := by omega
      have hk2 : (2 : Int) * (k0 : Int) = (k : Int) := by omega
      have hie : i % 2 = 0 := by omega
      have hke : k % 2 = 0 := by omega
      have hil : i + 1 < t.size := by omega
      have hkl : k + 1 < t.size := by omega
      have hn1 : 1 ≤ n := by omega
      obtain ⟨cap, w2, hconv, hby, hb2, hsz2⟩ := to_bytes w1 t
      have hB2 := hb1.trans (hb2.mono hb1.size)
      obtain ⟨L, hL⟩ : ∃ L, t.data.toList = L := ⟨_, rfl⟩
      have hLl : L.length = t.size := by rw [← hL]; rfl
      rw [hL] at hby
      have qi : i < L.length := by omega
      have qk : k < L.length := by omega
      have qi1 : i + 1 < L.length := by omega
      have qk1 : k + 1 < L.length := by omega
      obtain ⟨bi, hbi⟩ : ∃ bi, L[i]'qi = bi := ⟨_, rfl⟩
      obtain ⟨bk, hbk⟩ : ∃ bk, L[k]'qk = bk := ⟨_, rfl⟩
      have ci : w2.cell? ⟨w1.heap.size, i, none⟩ = some (.int .u8 (bi.toNat : Int)) := by rw [← hbi]; exact (hby i qi).1
      have ck : w2.cell? ⟨w1.heap.size, k, none⟩ = some (.int .u8 (bk.toNat : Int)) := by rw [← hbk]; exact (hby k qk).1
      have fi := (hby i qi).2
      have fk := (hby k qk).2
      have hsw := swap_world hby i k qi qk
      rw [hbi, hbk] at hsw
      have hswb := swap_below hB2 hb1.size i k (.int .u8 (bk.toNat : Int)) (.int .u8 (bi.toNat : Int))
      have x1 : (0 : Int) ≤ (i : Int) := by omega
      have x2 : (i : Int) < (t.size : Int) := by omega
      have x3 : (0 : Int) ≤ (k : Int) := by omega
      have x4 : (k : Int) < (t.size : Int) := by omega
      have Hhi := Lib.hid hi
      have Hhk := Lib.hid hk
      have Hn := Lib.hid hn
      have HL := Lib.hid hL
      have HLl := Lib.hid hLl
      have Hbi := Lib.hid hbi
      have Hbk := Lib.hid hbk
      have Hie := Lib.hid hie
      have Hke := Lib.hid hke
      have Hsz2 := Lib.hid hsz2
      clear hi hk hn hL hLl hbi hbk hz hie hke hsz2
      go_wp2_with fail
      refine (pick_any _ _ _ l1 u1 (by omega) (by omega)).mono ?_
      rintro e w' ⟨rfl, rfl⟩
      go_wp2_with fail
      refine (pick_any _ _ _ l2 u2 (by omega) (by omega)).mono ?_
      rintro e w' ⟨rfl, rfl⟩
      go_upto_region 8 with fail
      go_cut [13] (fun v wx => v = .slice (some ⟨w1.heap.size, 0, none⟩) t.size cap ∧ BytesAt wx w1.heap.size (swap L i k qi qk) ∧ Below w.heap.size w wx ∧ w2.heap.size ≤ wx.heap.size)
      case first =>
        rcases Nat.lt_trichotomy i k with e | e | e
        · have e1 : ¬ i = k := by omega
          have e2 : ¬ k = i := by omega
          clear e
          go_wp2_with fail
          go_region
          all_goals
            go_wp2_with fail
            go_meet
            exact ⟨rfl, hsw.drew, hswb.drew, by simp⟩
        · subst e
          have e0 : bk = bi := by rw [← Hbk.out, ← Hbi.out]
          subst e0
          go_wp2_with fail
          go_region
          all_goals
            go_wp2_with fail
            go_meet
            exact ⟨rfl, hsw.drew, hswb.drew, by simp⟩
        · have e1 : ¬ i = k := by omega
          have e2 : ¬ k = i := by omega
          clear e
          go_wp2_with fail
          go_region
          all_goals
            go_wp2_with fail
            go_meet
            exact ⟨rfl, hsw.drew, hswb.drew, by simp⟩
      case rest =>
        obtain ⟨rfl, hby3, hB3, hsz3⟩ := hcut
        have hsw1 : SW (swap L i k qi qk) = SW L := SW_swap L i k qi qk (by unfold wt; rw [if_pos Hie.out, if_pos Hke.out])
        have hlen2 : (swap L i k qi qk).length = L.length := swap_length _ _ _ _ _
        obtain ⟨L2, hL2⟩ : ∃ L2, swap L i k qi qk = L2 := ⟨_, rfl⟩
        rw [hL2] at hby3 hsw1 hlen2
        have ri : i + 1 < L2.length := by omega
        have rk : k + 1 < L2.length := by omega
        obtain ⟨di, hdi⟩ : ∃ di, L2[i + 1]'ri = di := ⟨_, rfl⟩
        obtain ⟨dk, hdk⟩ : ∃ dk, L2[k + 1]'rk = dk := ⟨_, rfl⟩
        have ci : wc.cell? ⟨w1.heap.size, i + 1, none⟩ = some (.int .u8 (di.toNat : Int)) := by rw [← hdi]; exact (hby3 (i + 1) ri).1
        have ck : wc.cell? ⟨w1.heap.size, k + 1, none⟩ = some (.int .u8 (dk.toNat : Int)) := by rw [← hdk]; exact (hby3 (k + 1) rk).1
        have fi := (hby3 (i + 1) ri).2
        have fk := (hby3 (k + 1) rk).2
        have hsw := swap_world hby3 (i + 1) (k + 1) ri rk
        rw [hdi, hdk] at hsw
        have hswb := swap_below hB3 hb1.size (i + 1) (k + 1) (.int .u8 (dk.toNat : Int)) (.int .u8 (di.toNat : Int))
        have Hdi := Lib.hid hdi
        have Hdk := Lib.hid hdk
        have Hsw1 := Lib.hid hsw1
        have Hlen2 := Lib.hid hlen2
        have x5 : (i : Int) + 1 < (t.size : Int) := by omega
        have x6 : (k : Int) + 1 < (t.size : Int) := by omega
        have x7 : (0 : Int) ≤ (i : Int) + 1 := by omega
        have x8 : (0 : Int) ≤ (k : Int) + 1 := by omega
        have y1 : IntKind.i64.wrap ((i : Int) + 1) = (i : Int) + 1 := IntWalk.i64_in _ (by omega)
        have y2 : IntKind.i64.wrap ((k : Int) + 1) = (k : Int) + 1 := IntWalk.i64_in _ (by omega)
        have y3 : ((i : Int) + 1).toNat = i + 1 := by omega
        have y4 : ((k : Int) + 1).toNat = k + 1 := by omega
        clear hdi hdk hsw1 hlen2 hL2 Hbi Hbk hby
        go_upto_region 9 with fail
        go_cut [13] (fun v wx => v = .slice (some ⟨w1.heap.size, 0, none⟩) t.size cap ∧ BytesAt wx w1.heap.size (swap L2 (i + 1) (k + 1) ri rk) ∧ Below w.heap.size w wx ∧ w2.heap.size ≤ wx.heap.size)
        case first =>
          rcases Nat.lt_trichotomy i k with e | e | e
          · have e1 : ¬ i = k := by omega
            have e2 : ¬ k = i := by omega
            clear e
            go_wp2_with fail
            go_region
            all_goals
              go_wp2_with fail
              go_meet
              exact ⟨rfl, hsw.drew, hswb.drew, by simp; exact hsz3⟩
          · subst e
            have e0 : dk = di := by rw [← Hdk.out, ← Hdi.out]
            subst e0
            go_wp2_with fail
            go_region
            all_goals
              go_wp2_with fail
              go_meet
              exact ⟨rfl, hsw.drew, hswb.drew, by simp; exact hsz3⟩
          · have e1 : ¬ i = k := by omega
            have e2 : ¬ k = i := by omega
            clear e
            go_wp2_with fail
            go_region
            all_goals
              go_wp2_with fail
              go_meet
              exact ⟨rfl, hsw.drew, hswb.drew, by simp; exact hsz3⟩
        case rest =>
          obtain ⟨rfl, hby4, hB4, hsz4⟩ := hcut
          have hswf : SW (swap L2 (i + 1) (k + 1) ri rk) = SW L2 := SW_swap L2 (i + 1) (k + 1) ri rk (by unfold wt; rw [if_neg (by have := Hie.out; omega), if_neg (by have := Hke.out; omega)])
          have hlen3 : (swap L2 (i + 1) (k + 1) ri rk).length = L2.length := swap_length _ _ _ _ _
          obtain ⟨L3, hL3⟩ : ∃ L3, swap L2 (i + 1) (k + 1) ri rk = L3 := ⟨_, rfl⟩
          rw [hL3] at hby4 hswf hlen3
          have hSL : SW L3 = SW L := hswf.trans Hsw1.out
          have hl3 : L3.length = t.size := by rw [hlen3, Hlen2.out, HLl.out]
          have hgl : w1.heap.size < wc.heap.size := by have := Hsz2.out; omega
          obtain ⟨c0, hc0⟩ : ∃ c0, sumN L = c0 := ⟨_, rfl⟩
          obtain ⟨al, hal⟩ : ∃ al : ByteArray, al = ⟨L3.toArray⟩ := ⟨_, rfl⟩
          have hall : al.data.toList = L3 := by rw [hal]
          have halz : al.size ≤ 400 := by rw [← size_toList, hall, hl3]; exact hs
          obtain ⟨nz, hnz⟩ : ∃ nz : ByteArray, nz = ⟨(List.replicate z (0 : UInt8)).toArray⟩ := ⟨_, rfl⟩
          have hnzl : nz.data.toList = List.replicate z (0 : UInt8) := by rw [hnz]
          have hnzz : nz.size ≤ 9 := by rw [← size_toList, hnzl, List.length_replicate]; omega
          have hmk := fun w => run_make_row' (P := Try.prog) 34 5 (.int .u8 0) 1 Try.underlying34 infoU8 rfl .i64 .i64 z (by omega) (by omega) w
          have hcz := from_bytes (cap := z) (made_bytes wc z) z (by simp)
          rw [← hnz] at hcz
          obtain ⟨tA, hA, hAl, hAz⟩ := cut_to t i (by omega)
          obtain ⟨tB, hB, hBl, hBz⟩ := cut_from t i (by omega)
          obtain ⟨c1, hc1⟩ : ∃ c1, sumN tA.data.toList = c1 := ⟨_, rfl⟩
          obtain ⟨c2, hc2⟩ : ∃ c2, sumN tB.data.toList = c2 := ⟨_, rfl⟩
          have hc1b : c1 ≤ 65535 := by rw [← hc1]; exact sumN_le _
          have hc2b : c2 ≤ 65535 := by rw [← hc2]; exact sumN_le _
          rw [HL.out] at hAl hBl
          rw [hAl] at hc1
          rw [hBl] at hc2
          have hxy := sum_parts L i0 (by have := Hhi.out; omega) c1 c2 (by rw [Hhi.out]; exact hc1) (by rw [Hhi.out]; exact hc2)
          rw [hc0] at hxy
          have q0 : ∀ w, Calls Try.prog 14 #[.string t] w fun e w' => e = .returned (.int .i64 (c0 : Int)) ∧ Below w.heap.size w w' := fun w =>
            (sum_any t (by omega) w).mono fun _ _ ⟨h1, h2⟩ => ⟨by rw [h1, HL.out, hc0], h2⟩
          have q1 : ∀ w, Calls Try.prog 14 #[.string tA] w fun e w' => e = .returned (.int .i64 (c1 : Int)) ∧ Below w.heap.size w w' := fun w =>
            (sum_any tA (by omega) w).mono fun _ _ ⟨h1, h2⟩ => ⟨by rw [h1, hAl, hc1], h2⟩
          have q2 : ∀ w, Calls Try.prog 14 #[.string tB] w fun e w' => e = .returned (.int .i64 (c2 : Int)) ∧ Below w.heap.size w w' := fun w =>
            (sum_any tB (by omega) w).mono fun _ _ ⟨h1, h2⟩ => ⟨by rw [h1, hBl, hc2], h2⟩
          have q3 : ∀ w, Calls Try.prog 14 #[.string al] w fun e w' => e = .returned (.int .i64 (c0 : Int)) ∧ Below w.heap.size w w' := fun w =>
            (sum_any al (by omega) w).mono fun _ _ ⟨h1, h2⟩ => ⟨by rw [h1, hall, sumN_eq, hSL, ← sumN_eq, hc0], h2⟩
          have q4 : ∀ w, Calls Try.prog 14 #[.string (t ++ nz)] w fun e w' => e = .returned (.int .i64 (c0 : Int)) ∧ Below w.heap.size w w' := fun w =>
            (sum_any (t ++ nz) (by rw [ByteArray.size_append]; omega) w).mono fun _ _ ⟨h1, h2⟩ => ⟨by
              rw [h1, toList_append, HL.out, hnzl, sumN_eq, SW_append n L _ (by rw [HLl.out]; exact Hn.out), SW_noughts, Nat.add_zero, ← sumN_eq, hc0], h2⟩
          obtain ⟨xs, hxs⟩ : ∃ xs, beS 2 (65535 - (c1 : Int)) = xs := ⟨_, rfl⟩
          obtain ⟨ys, hys⟩ : ∃ ys, beS 2 (65535 - (c2 : Int)) = ys := ⟨_, rfl⟩
          have hxz : xs.size ≤ 2 := by rw [← hxs, beS_size _ _ (by decide) (by decide)]; decide
          have hyz : ys.size ≤ 2 := by rw [← hys, beS_size _ _ (by decide) (by decide)]; decide
          rw [hxs, hys] at hxy
          have q5 : ∀ w, Calls Try.prog 14 #[.string (xs ++ ys)] w fun e w' => e = .returned (.int .i64 (c0 : Int)) ∧ Below w.heap.size w w' := fun w =>
            (sum_any (xs ++ ys) (by rw [ByteArray.size_append]; omega) w).mono fun _ _ ⟨h1, h2⟩ => ⟨by rw [h1, hxy], h2⟩
          have Q0 := Lib.hid q0
          have Q1 := Lib.hid q1
          have Q2 := Lib.hid q2
          have Q3 := Lib.hid q3
          have Q4 := Lib.hid q4
          have Q5 := Lib.hid q5
          have Hl3 := Lib.hid hl3
          have Hal := Lib.hid hal
          clear q0 q1 q2 q3 q4 q5 hswf hlen3 hL3 hSL hl3 hc0 hal hall hnz hnzl hAl hBl hc1 hc2 hxy ci ck fi fk hsw hswb hby3 y1 y2 y3 y4
          go_wp2_with fail
          refine (pick_any _ _ _ l3 u3 (by omega) (by omega)).mono ?_
          rintro e w' ⟨rfl, rfl⟩
          go_wp2_with fail
          refine (Q1.out _).mono ?_
          rintro e w5 ⟨rfl, hb5⟩
          have hB4' := hB4.alloc hB4.size (.cells (madeCells #[.int .u8 0] z) 5)
          have hBc := ((Below.refl wc.heap.size wc).alloc (Nat.le_refl _) (.cells (madeCells #[.int .u8 0] z) 5)).trans (hb5.mono (by simp))
          have hB5 := hB4'.trans (hb5.mono hB4'.size)
          clear hcz hmk hA hB4'
          go_wp2_with fail
          refine (put_two _ _ (by omega) (by omega)).mono ?_
          rintro e w6 ⟨rfl, hb6⟩
          have hB6 := hB5.trans (hb6.mono hB5.size)
          have hBc6 := hBc.trans (hb6.mono hBc.size)
          go_wp2_with fail
          refine (Q2.out _).mono ?_
          rintro e w7 ⟨rfl, hb7⟩
          have hB7 := hB6.trans (hb7.mono hB6.size)
          have hBc7 := hBc6.trans (hb7.mono hBc6.size)
          clear hB
          go_wp2_with fail
          refine (put_two _ _ (by omega) (by omega)).mono ?_
          rintro e w8 ⟨rfl, hb8⟩
          have hB8 := hB7.trans (hb8.mono hB7.size)
          have hBc8 := hBc7.trans (hb8.mono hBc7.size)
          have hcl := from_bytes (cap := cap) (hby4.keep hgl hBc8) t.size Hl3.out.symm
          rw [← Hal.out] at hcl
          go_wp2_with fail
          refine (Q3.out _).mono ?_
          rintro e w9 ⟨rfl, hb9⟩
          have hB9 := hB8.trans (hb9.mono hB8.size)
          clear hcl
          go_wp2_with fail
          refine (Q0.out _).mono ?_
          rintro e w10 ⟨rfl, hb10⟩
          have hB10 := hB9.trans (hb10.mono hB9.size)
          go_wp2_with fail
          refine (Q4.out _).mono ?_
          rintro e w11 ⟨rfl, hb11⟩
          have hB11 := hB10.trans (hb11.mono hB10.size)
          go_wp2_with fail
          refine (Q0.out _).mono ?_
          rintro e w12 ⟨rfl, hb12⟩
          have hB12 := hB11.trans (hb12.mono hB11.size)
          go_wp2_with fail
          refine (Q5.out _).mono ?_
          rintro e w13 ⟨rfl, hb13⟩
          have hB13 := hB12.trans (hb13.mono hB12.size)
          go_wp2_with fail
          refine (Q0.out _).mono ?_
          rintro e w14 ⟨rfl, hb14⟩
          have hB14 := hB13.trans (hb14.mono hB13.size)
          go_wp2_with fail
          go_ret
          exact ⟨rfl, hB14⟩
end Go.Proofs.Ytolohjinjpegmaa

/- The walk of IPRoundTrip. -/
import Derived.Test.YtgoakefkiedhmaaIpSane
import Derived.Test.YtgoakefkiedhmaaIpPkf
import Derived.Test.YtgoakefkiedhmaaIpEq
import Derived.Deep.RegionHeld3
import Derived.BigRegion
import Derived.Deep.DeepCutAuto
namespace Go.Proofs.Ytgoakefkiedhmaa
set_option linter.unusedVariables false
open Go.RowKit
attribute [local go_sem] Oper.semAt_some

theorem conv_one (w' : World) (n : Nat) (x : Int) (bs : ByteArray) (hbs : strOfNums [x] = bs) (h : w'.cell? ⟨n, 0, none⟩ = some (.int .u8 x)) :
    (convert 40 9 (.slice (some ⟨n, 0, none⟩) 1 1)).run Try.prog w' = .ok (.string bs) w' := by
  rw [← hbs]
  exact run_convert_bytes_arg (P := Try.prog) _ 40 5 Try.underlying40 Try.underlying5 n 0 1 1 [x] rfl (fun i hi => by
    obtain rfl : i = 0 := by omega
    rw [h]; rfl) 9 Try.underlying9
/-- the encoding with one byte of its header turned -/
theorem flip_dec (p : Pk) (h : okW p p.s.size) (j : Nat) (hj : j < 20) (bs : ByteArray) (z : UInt8) (hz : bs.data.toList = [z]) (hne : ∀ h : j < (encP p).size, z ≠ (encP p)[j]) :
    ¬ decE (((encP p).extract 0 j ++ bs) ++ (encP p).extract (j + 1) (encP p).size) ∧ ¬ decL (((encP p).extract 0 j ++ bs) ++ (encP p).extract (j + 1) (encP p).size) := by
  have hsz := enc_size p
  have hjl : j < (encP p).size := by omega
  have hl : j < (encP p).data.toList.length := by rw [size_toList]; exact hjl
  have hS : (encP p).data.toList = (encP p).data.toList.take j ++ (encP p).data.toList[j] :: (encP p).data.toList.drop (j + 1) := by rw [List.getElem_cons_drop, List.take_append_drop]
  have hT : (((encP p).extract 0 j ++ bs) ++ (encP p).extract (j + 1) (encP p).size).data.toList = (encP p).data.toList.take j ++ z :: (encP p).data.toList.drop (j + 1) := by
    rw [toList_append, toList_append, hz, extract_list, extract_list, List.drop_zero, Nat.sub_zero, List.append_assoc, List.take_of_length_le (l := (encP p).data.toList.drop (j + 1)) (by rw [List.length_drop, size_toList]; exact Nat.le_refl _)]
    rfl
  have hn : ¬ decOk (((encP p).extract 0 j ++ bs) ++ (encP p).extract (j + 1) (encP p).size) := fun hd => by
    have := flip_no _ _ _ _ _ _ hS hT (by rw [List.length_take]; omega) (dec_enc p h).2.1.1 hd
    exact hne hjl (this.symm.trans (by simp [ByteArray.getElem_eq_getElem_data]))
  exact ⟨fun k => hn k.1, fun k => hn k.1⟩

set_option maxRecDepth 100000 in
set_option maxHeartbeats 3200000 in
theorem walk_IPRoundTrip (x y : Rw) (at0 by0 : Int) (w : World) (hx : x.ok) (hy : y.ok) (l1 : -9223372036854775808 ≤ at0) (u1 : at0 ≤ 9223372036854775807) (l2 : -9223372036854775808 ≤ by0) (u2 : by0 ≤ 9223372036854775807) :
    Calls Try.prog 5 #[rv x, rv y, .int .i64 at0, .int .i64 by0] w fun e w' => e = .returned (.bool true) ∧ Below w.heap.size w w' := by
  have hB := ((Below.refl _ w).alloc (Nat.le_refl _) (ro x)).alloc (by simp) (ro y)
  have hX : ((w.alloc (ro x)).alloc (ro y)).heap[w.heap.size]? = some (ro x) := blk_alloc (blk_new w (ro x)) _
  have hY : ((w.alloc (ro x)).alloc (ro y)).heap[w.heap.size + 1]? = some (ro y) := by
    have := blk_new (w.alloc (ro x)) (ro y)
    rw [World.size_alloc] at this; exact this
  go_enter Try.func5, Try.ntmps5
  go_wp2_with fail
  refine (sane_any _).mono ?_
  rintro e w1 ⟨rfl, hb⟩
  replace hB := hB.trans (hb.mono hB.size)
  replace hX := blk_below hX hb (blk_lt hX)
  replace hY := blk_below hY hb (blk_lt hY)
  clear hb
  obtain ⟨x0, xf0⟩ := blk_cell (k := 0) hX rfl
  obtain ⟨x1, xf1⟩ := blk_cell (k := 1) hX rfl
  obtain ⟨x2, xf2⟩ := blk_cell (k := 2) hX rfl
  obtain ⟨x3, xf3⟩ := blk_cell (k := 3) hX rfl
  obtain ⟨x4, xf4⟩ := blk_cell (k := 4) hX rfl
  obtain ⟨x5, xf5⟩ := blk_cell (k := 5) hX rfl
  obtain ⟨x6, xf6⟩ := blk_cell (k := 6) hX rfl
  obtain ⟨x7, xf7⟩ := blk_cell (k := 7) hX rfl
  obtain ⟨x8, xf8⟩ := blk_cell (k := 8) hX rfl
  simp only [List.getElem_toArray, List.getElem_cons_zero, List.getElem_cons_succ] at x0 x1 x2 x3 x4 x5 x6 x7 x8
  clear xf0 xf1 xf2 xf3 xf4 xf5 xf6 xf7 xf8
  go_wp2_with fail
  refine (packet_any x hx _).mono ?_
  rintro e w2 ⟨⟨p, rfl, hp, hp300⟩, hb⟩
  replace hB := hB.trans (hb.mono hB.size)
  replace hX := blk_below hX hb (blk_lt hX)
  replace hY := blk_below hY hb (blk_lt hY)
  clear hb
  clear x0 x1 x2 x3 x4 x5 x6 x7 x8
  clear hX
  have hP := blk_new w2 (po p)
  replace hB := hB.alloc hB.size (po p)
  replace hY := blk_alloc hY (po p)
  obtain ⟨y0, yf0⟩ := blk_cell (k := 0) hY rfl
  obtain ⟨y1, yf1⟩ := blk_cell (k := 1) hY rfl
  obtain ⟨y2, yf2⟩ := blk_cell (k := 2) hY rfl
  obtain ⟨y3, yf3⟩ := blk_cell (k := 3) hY rfl
  obtain ⟨y4, yf4⟩ := blk_cell (k := 4) hY rfl
  obtain ⟨y5, yf5⟩ := blk_cell (k := 5) hY rfl
  obtain ⟨y6, yf6⟩ := blk_cell (k := 6) hY rfl
  obtain ⟨y7, yf7⟩ := blk_cell (k := 7) hY rfl
  obtain ⟨y8, yf8⟩ := blk_cell (k := 8) hY rfl
  simp only [List.getElem_toArray, List.getElem_cons_zero, List.getElem_cons_succ] at y0 y1 y2 y3 y4 y5 y6 y7 y8
  clear yf0 yf1 yf2 yf3 yf4 yf5 yf6 yf7 yf8
  go_wp2_with fail
  refine (packet_any y hy _).mono ?_
  rintro e w3 ⟨⟨q, rfl, hq, hq300⟩, hb⟩
  replace hB := hB.trans (hb.mono hB.size)
  replace hY := blk_below hY hb (blk_lt hY)
  replace hP := blk_below hP hb (blk_lt hP)
  clear hb
  clear y0 y1 y2 y3 y4 y5 y6 y7 y8
  clear hY
  have hl3 : w2.heap.size < w3.heap.size := blk_lt hP
  have hQ := blk_new w3 (po q)
  replace hB := hB.alloc hB.size (po q)
  replace hP := blk_alloc hP (po q)
  obtain ⟨c0, cf0⟩ := blk_cell (k := 0) hP rfl
  obtain ⟨c1, cf1⟩ := blk_cell (k := 1) hP rfl
  obtain ⟨c2, cf2⟩ := blk_cell (k := 2) hP rfl
  obtain ⟨c3, cf3⟩ := blk_cell (k := 3) hP rfl
  obtain ⟨c4, cf4⟩ := blk_cell (k := 4) hP rfl
  obtain ⟨c5, cf5⟩ := blk_cell (k := 5) hP rfl
  obtain ⟨c6, cf6⟩ := blk_cell (k := 6) hP rfl
  obtain ⟨c7, cf7⟩ := blk_cell (k := 7) hP rfl
  obtain ⟨c8, cf8⟩ := blk_cell (k := 8) hP rfl
  simp only [List.getElem_toArray, List.getElem_cons_zero, List.getElem_cons_succ] at c0 c1 c2 c3 c4 c5 c6 c7 c8
  clear cf0 cf1 cf2 cf3 cf4 cf5 cf6 cf7 cf8
  have hpm : p.s.size ≤ maxLen := Nat.le_trans hp300 (by decide)
  have hqm : q.s.size ≤ maxLen := Nat.le_trans hq300 (by decide)
  have HP := Lib.hid hp
  have HQ := Lib.hid hq
  clear hp hq
  go_wp2_with fail
  refine (encode_yes p hpm HP.out _).mono ?_
  rintro e w4 ⟨rfl, hb⟩
  replace hB := hB.trans (hb.mono hB.size)
  replace hP := blk_below hP hb (blk_lt hP)
  replace hQ := blk_below hQ hb (blk_lt hQ)
  clear hb
  clear c0 c1 c2 c3 c4 c5 c6 c7 c8
  obtain ⟨d0, df0⟩ := blk_cell (k := 0) hQ rfl
  obtain ⟨d1, df1⟩ := blk_cell (k := 1) hQ rfl
  obtain ⟨d2, df2⟩ := blk_cell (k := 2) hQ rfl
  obtain ⟨d3, df3⟩ := blk_cell (k := 3) hQ rfl
  obtain ⟨d4, df4⟩ := blk_cell (k := 4) hQ rfl
  obtain ⟨d5, df5⟩ := blk_cell (k := 5) hQ rfl
  obtain ⟨d6, df6⟩ := blk_cell (k := 6) hQ rfl
  obtain ⟨d7, df7⟩ := blk_cell (k := 7) hQ rfl
  obtain ⟨d8, df8⟩ := blk_cell (k := 8) hQ rfl
  simp only [List.getElem_toArray, List.getElem_cons_zero, List.getElem_cons_succ] at d0 d1 d2 d3 d4 d5 d6 d7 d8
  clear df0 df1 df2 df3 df4 df5 df6 df7 df8
  go_wp2_with fail
  refine (encode_yes q hqm HQ.out _).mono ?_
  rintro e w5 ⟨rfl, hb⟩
  replace hB := hB.trans (hb.mono hB.size)
  replace hP := blk_below hP hb (blk_lt hP)
  replace hQ := blk_below hQ hb (blk_lt hQ)
  clear hb
  clear d0 d1 d2 d3 d4 d5 d6 d7 d8
  have hzs := enc_size p
  have hzt := enc_size q
  have HD : Hid (∀ w : World, Calls Try.prog 19 #[.string (encP p)] w fun e w' => e = .returned (.tuple #[pv p, .int .i64 0]) ∧ Below w.heap.size w w') := by
    intro w
    obtain ⟨d1, d2, -⟩ := dec_enc p HP.out
    refine (dec_any _ (by rw [hzs]; unfold maxLen; omega) w).mono ?_
    rintro e w' ⟨rfl, hb⟩
    unfold dV dE
    rw [if_pos d2, if_pos d2, d1]
    exact ⟨rfl, hb⟩
  have HH : Hid (∀ (n : Nat), 20 ≤ n → n ≤ 20 + p.s.size → ∀ w : World, Calls Try.prog 21 #[.string ((encP p).extract 0 n)] w fun e w' => e = .returned (.tuple #[pv { p with s := p.s.extract 0 (n - 20) }, .int .i64 0]) ∧ Below w.heap.size w w') := by
    intro n n1 n2 w
    obtain ⟨d1, d2⟩ := enc_cut p HP.out n n1 n2
    refine (dhd_any _ (by rw [ByteArray.size_extract]; unfold maxLen; omega) w).mono ?_
    rintro e w' ⟨rfl, hb⟩
    unfold dV dE
    rw [if_pos d2, if_pos d2, d1]
    exact ⟨rfl, hb⟩
  have HS : Hid (∀ (n : Nat), n < 20 → ∀ w : World, Calls Try.prog 21 #[.string ((encP p).extract 0 n)] w fun e w' => e = .returned (.tuple #[pv pz, .int .i64 60]) ∧ Below w.heap.size w w') := by
    intro n n1 w
    have hz : ((encP p).extract 0 n).size < 20 := by rw [ByteArray.size_extract]; omega
    refine (dhd_any _ (by unfold maxLen; omega) w).mono ?_
    rintro e w' ⟨rfl, hb⟩
    unfold dV dE
    rw [if_neg (dec_short hz).2, if_neg (dec_short hz).2]
    exact ⟨rfl, hb⟩
  have HO : Hid (∀ (j : Nat) (bs : ByteArray) (z : UInt8), j < 20 → bs.data.toList = [z] → (∀ h : j < (encP p).size, z ≠ (encP p)[j]) → (∀ w : World, Calls Try.prog 19 #[.string (((encP p).extract 0 j ++ bs) ++ (encP p).extract (j + 1) (encP p).size)] w fun e w' => e = .returned (.tuple #[pv pz, .int .i64 60]) ∧ Below w.heap.size w w') ∧ (∀ w : World, Calls Try.prog 21 #[.string (((encP p).extract 0 j ++ bs) ++ (encP p).extract (j + 1) (encP p).size)] w fun e w' => e = .returned (.tuple #[pv pz, .int .i64 60]) ∧ Below w.heap.size w w')) := by
    intro j bs z hj hz hne
    obtain ⟨h1, h2⟩ := flip_dec p HP.out j hj bs z hz hne
    have hbs : bs.size = 1 := by rw [← size_toList, hz]; rfl
    have hsz : (((encP p).extract 0 j ++ bs) ++ (encP p).extract (j + 1) (encP p).size).size ≤ maxLen := by
      simp only [ByteArray.size_append, ByteArray.size_extract]; unfold maxLen; omega
    constructor
    · intro w
      refine (dec_any _ hsz w).mono ?_
      rintro e w' ⟨rfl, hb⟩
      unfold dV dE
      rw [if_neg h1, if_neg h1]
      exact ⟨rfl, hb⟩
    · intro w
      refine (dhd_any _ hsz w).mono ?_
      rintro e w' ⟨rfl, hb⟩
      unfold dV dE
      rw [if_neg h2, if_neg h2]
      exact ⟨rfl, hb⟩
  have HI : Hid (encP p = encP q → p = q) := enc_inj HP.out HQ.out
  obtain ⟨s, hs⟩ : ∃ s, encP p = s := ⟨_, rfl⟩
  obtain ⟨t, ht⟩ : ∃ t, encP q = t := ⟨_, rfl⟩
  rw [hs] at HD HH HS HO hzs
  rw [hs, ht] at HI
  rw [ht] at hzt
  go_wp2_with fail
  try rw [hs]
  refine (HD.out _).mono ?_
  rintro e w6 ⟨rfl, hb⟩
  replace hB := hB.trans (hb.mono hB.size)
  replace hP := blk_below hP hb (blk_lt hP)
  replace hQ := blk_below hQ hb (blk_lt hQ)
  clear hb
  have hl6 : w3.heap.size < w6.heap.size := blk_lt hQ
  have hK := blk_new w6 (po p)
  replace hB := hB.alloc hB.size (po p)
  replace hP := blk_alloc hP (po p)
  replace hQ := blk_alloc hQ (po p)
  obtain ⟨c0, cf0⟩ := blk_cell (k := 0) hP rfl
  obtain ⟨c1, cf1⟩ := blk_cell (k := 1) hP rfl
  obtain ⟨c2, cf2⟩ := blk_cell (k := 2) hP rfl
  obtain ⟨c3, cf3⟩ := blk_cell (k := 3) hP rfl
  obtain ⟨c4, cf4⟩ := blk_cell (k := 4) hP rfl
  obtain ⟨c5, cf5⟩ := blk_cell (k := 5) hP rfl
  obtain ⟨c6, cf6⟩ := blk_cell (k := 6) hP rfl
  obtain ⟨c7, cf7⟩ := blk_cell (k := 7) hP rfl
  obtain ⟨c8, cf8⟩ := blk_cell (k := 8) hP rfl
  simp only [List.getElem_toArray, List.getElem_cons_zero, List.getElem_cons_succ] at c0 c1 c2 c3 c4 c5 c6 c7 c8
  clear cf0 cf1 cf2 cf3 cf4 cf5 cf6 cf7 cf8
  obtain ⟨d0, df0⟩ := blk_cell (k := 0) hQ rfl
  obtain ⟨d1, df1⟩ := blk_cell (k := 1) hQ rfl
  obtain ⟨d2, df2⟩ := blk_cell (k := 2) hQ rfl
  obtain ⟨d3, df3⟩ := blk_cell (k := 3) hQ rfl
  obtain ⟨d4, df4⟩ := blk_cell (k := 4) hQ rfl
  obtain ⟨d5, df5⟩ := blk_cell (k := 5) hQ rfl
  obtain ⟨d6, df6⟩ := blk_cell (k := 6) hQ rfl
  obtain ⟨d7, df7⟩ := blk_cell (k := 7) hQ rfl
  obtain ⟨d8, df8⟩ := blk_cell (k := 8) hQ rfl
  simp only [List.getElem_toArray, List.getElem_cons_zero, List.getElem_cons_succ] at d0 d1 d2 d3 d4 d5 d6 d7 d8
  clear df0 df1 df2 df3 df4 df5 df6 df7 df8
  obtain ⟨k0, kf0⟩ := blk_cell (k := 0) hK rfl
  obtain ⟨k1, kf1⟩ := blk_cell (k := 1) hK rfl
  obtain ⟨k2, kf2⟩ := blk_cell (k := 2) hK rfl
  obtain ⟨k3, kf3⟩ := blk_cell (k := 3) hK rfl
  obtain ⟨k4, kf4⟩ := blk_cell (k := 4) hK rfl
  obtain ⟨k5, kf5⟩ := blk_cell (k := 5) hK rfl
  obtain ⟨k6, kf6⟩ := blk_cell (k := 6) hK rfl
  obtain ⟨k7, kf7⟩ := blk_cell (k := 7) hK rfl
  obtain ⟨k8, kf8⟩ := blk_cell (k := 8) hK rfl
  simp only [List.getElem_toArray, List.getElem_cons_zero, List.getElem_cons_succ] at k0 k1 k2 k3 k4 k5 k6 k7 k8
  clear kf0 kf1 kf2 kf3 kf4 kf5 kf6 kf7 kf8
  go_upto_region 7 with fail
  go_cut [82] (fun v wx => v = .bool false ∧ wx = w6.alloc (po p))
  case first =>
    by_cases hpq : p = q
    · subst hpq
      obtain rfl : s = t := hs.symm.trans ht
      go_wp2
      go_meet
      exact ⟨rfl, rfl⟩
    · have hst : ¬ s = t := fun e => hpq (HI.out e)
      have hst2 : ¬ s.toList = t.toList := fun e => hst (ba_ext (by rw [← Lib.toList_data, ← Lib.toList_data, e]))
      have hne := run_ne hpq
      go_wp2
      go_meet
      exact ⟨congrArg Value.bool (by simpa using hst2), rfl⟩
  case rest =>
    obtain ⟨rfl, rfl⟩ := hcut
    clear HI HQ hzt hqm hq300 ht
    clear hQ
    go_wp2_with fail
    refine (pick_any at0 20 _ l1 u1 (by decide) (by decide)).mono ?_
    rintro e w7 ⟨rfl, rfl⟩
    obtain ⟨pj1, pj2⟩ := pickZ_bd at0 20 (by decide)
    obtain ⟨j, hj⟩ : ∃ j : Nat, pickZ at0 20 = (j : Int) := ⟨(pickZ at0 20).toNat, by omega⟩
    rw [hj] at pj1 pj2 ⊢
    have hjs : j < s.size := by omega
    obtain ⟨pm1, pm2⟩ := pickZ_bd by0 255 (by decide)
    obtain ⟨m, hm⟩ : ∃ m : Nat, pickZ by0 255 = (m : Int) := ⟨(pickZ by0 255).toNat, by omega⟩
    rw [hm] at pm1 pm2
    obtain ⟨z, hz, hza⟩ := xor_u8 s[j] (m + 1) (by omega) (by omega)
    rw [Int.natCast_add, show ((1 : Nat) : Int) = 1 from rfl] at hz
    obtain ⟨bs, hbs⟩ : ∃ bs, strOfNums [((z.toNat : Nat) : Int)] = bs := ⟨_, rfl⟩
    have hbl : bs.data.toList = [z] := by rw [← hbs, strOfNums_data]; simp
    have hbz : bs.size = 1 := by rw [← size_toList, hbl]; rfl
    go_wp2
    have hi1 : (j : Int) ≤ (s.size : Int) := by omega
    have hi2 : (j : Int) < (s.size : Int) := by omega
    have hi3 : (j : Int) + 1 ≤ (s.size : Int) := by omega
    have hi4 : (0 : Int) ≤ (j : Int) + 1 := by omega
    have hw1 : IntKind.i64.wrap (1 + (m : Int)) = 1 + (m : Int) := wraps_i64 _ (by omega) (by omega)
    have hw2 : IntKind.u8.wrap (1 + (m : Int)) = ((m + 1 : Nat) : Int) := by rw [IntKind.wrap_u8]; omega
    have hw3 : IntKind.i64.wrap ((j : Int) + 1) = (j : Int) + 1 := wraps_i64 _ (by omega) (by omega)
    have s1 : (s.extract 0 j).size = j := by rw [ByteArray.size_extract]; omega
    have s2 : (s.extract (j + 1) s.size).size = s.size - (j + 1) := by rw [ByteArray.size_extract]; omega
    have hsm : s.size ≤ 1000 := by omega
    have hq1 : (9223372036854775807 < j + 1) = False := eq_false (by omega)
    have hq2 : (9223372036854775807 < j + 1 + (s.size - (j + 1))) = False := eq_false (by omega)
    have HZS := Lib.hid hzs
    clear hzs
    go_cut [19] (fun v wx => v = .string ((s.extract 0 j ++ bs) ++ s.extract (j + 1) s.size) ∧ Below (w6.alloc (po p)).heap.size (w6.alloc (po p)) wx)
    case first =>
      refine wp_region_noPanic ?_
      refine wp_region_held_drew (S := fun _ => True) (by kernel_rfl) trivial (fun hHeld => ?_)
      obtain ⟨Wx, hWe⟩ : ∃ Wx, (w6.alloc (po p)).drew = Wx := ⟨_, rfl⟩
      have hBx : Below (w6.alloc (po p)).heap.size (w6.alloc (po p)) Wx := by rw [← hWe]; exact (Below.refl _ _).drew
      change wpAnyH _ _ _ _ _ _ _ _ (w6.alloc (po p)).drew
      rw [hWe]
      clear hWe
      clear c0 c1 c2 c3 c4 c5 c6 c7 c8 d0 d1 d2 d3 d4 d5 d6 d7 d8 k0 k1 k2 k3 k4 k5 k6 k7 k8
      refine wpAnyH_take (i := 0) (oi := ⟨some 85, _, _, _, _, _⟩) (v := ?va0) rfl (by kernel_rfl) (by kernel_rfl) (by kernel_rfl) (fun _ _ _ h => h) (Or.inl ⟨by rfl, ?hya0⟩) hHeld ?rra0
      case hya0 => (intro w hSw; (try dsimp only at hSw); go_simp; try with_reducible rfl)
      try simp only [Act.put, List.setIfInBounds_toArray, List.set_cons_zero, List.set_cons_succ]
      refine wpAnyH_take (i := 1) (oi := ⟨some 86, _, _, _, _, _⟩) (v := ?va1) rfl (by kernel_rfl) (by kernel_rfl) (by kernel_rfl) (fun _ _ _ h => h) (Or.inl ⟨by rfl, ?hya1⟩) hHeld ?rra1
      case hya1 => (intro w hSw; (try dsimp only at hSw); go_simp; try with_reducible rfl)
      try simp only [Act.put, List.setIfInBounds_toArray, List.set_cons_zero, List.set_cons_succ]
      refine wpAnyH_take (i := 2) (oi := ⟨some 87, _, _, _, _, _⟩) (v := ?va2) rfl (by kernel_rfl) (by kernel_rfl) (by kernel_rfl) (fun _ _ _ h => h) (Or.inl ⟨by rfl, ?hya2⟩) hHeld ?rra2
      case hya2 => (intro w hSw; (try dsimp only at hSw); go_simp; try with_reducible rfl)
      try simp only [Act.put, List.setIfInBounds_toArray, List.set_cons_zero, List.set_cons_succ]
      refine wpAnyH_take (i := 3) (oi := ⟨some 88, _, _, _, _, _⟩) (v := ?va3) rfl (by kernel_rfl) (by kernel_rfl) (by kernel_rfl) (fun _ _ _ h => h) (Or.inl ⟨by rfl, ?hya3⟩) hHeld ?rra3
      case hya3 => (intro w hSw; (try dsimp only at hSw); go_simp; try with_reducible rfl)
      try simp only [Act.put, List.setIfInBounds_toArray, List.set_cons_zero, List.set_cons_succ]
      refine wpAnyH_take (i := 4) (oi := ⟨some 89, _, _, _, _, _⟩) (v := ?va4) rfl (by kernel_rfl) (by kernel_rfl) (by kernel_rfl) (fun _ _ _ h => h) (Or.inl ⟨by rfl, ?hya4⟩) hHeld ?rra4
      case hya4 => (intro w hSw; (try dsimp only at hSw); go_simp; try with_reducible rfl)
      try simp only [Act.put, List.setIfInBounds_toArray, List.set_cons_zero, List.set_cons_succ]
      refine wpAnyH_take (i := 5) (oi := ⟨some 90, _, _, _, _, _⟩) (v := ?va5) rfl (by kernel_rfl) (by kernel_rfl) (by kernel_rfl) (fun _ _ _ h => h) (Or.inl ⟨by rfl, ?hya5⟩) hHeld ?rra5
      case hya5 => (intro w hSw; (try dsimp only at hSw); go_simp; try with_reducible rfl)
      try simp only [Act.put, List.setIfInBounds_toArray, List.set_cons_zero, List.set_cons_succ]
      refine wpAnyH_take (i := 6) (oi := ⟨some 91, _, _, _, _, _⟩) (v := ?va6) rfl (by kernel_rfl) (by kernel_rfl) (by kernel_rfl) (fun _ _ _ h => h) (Or.inl ⟨by rfl, ?hya6⟩) hHeld ?rra6
      case hya6 => (intro w hSw; (try dsimp only at hSw); go_simp; try with_reducible rfl)
      try simp only [Act.put, List.setIfInBounds_toArray, List.set_cons_zero, List.set_cons_succ]
      refine wpAnyH_take (i := 14) (oi := ⟨some 99, _, _, _, _, _⟩) (v := ?va14) rfl (by kernel_rfl) (by kernel_rfl) (by kernel_rfl) (fun _ _ _ h => h) (Or.inl ⟨by rfl, ?hya14⟩) hHeld ?rra14
      case hya14 => (intro w hSw; (try dsimp only at hSw); go_simp; try with_reducible rfl)
      try simp only [Act.put, List.setIfInBounds_toArray, List.set_cons_zero, List.set_cons_succ]
      refine wpAnyH_take (i := 15) (oi := ⟨some 100, _, _, _, _, _⟩) (v := ?va15) rfl (by kernel_rfl) (by kernel_rfl) (by kernel_rfl) (fun _ _ _ h => h) (Or.inl ⟨by rfl, ?hya15⟩) hHeld ?rra15
      case hya15 => (intro w hSw; (try dsimp only at hSw); go_simp; try with_reducible rfl)
      try simp only [Act.put, List.setIfInBounds_toArray, List.set_cons_zero, List.set_cons_succ]
      refine wpAnyH_take (i := 16) (oi := ⟨some 101, _, _, _, _, _⟩) (v := ?va16) rfl (by kernel_rfl) (by kernel_rfl) (by kernel_rfl) (fun _ _ _ h => h) (Or.inl ⟨by rfl, ?hya16⟩) hHeld ?rra16
      case hya16 => (intro w hSw; (try dsimp only at hSw); go_simp; try with_reducible rfl)
      try simp only [Act.put, List.setIfInBounds_toArray, List.set_cons_zero, List.set_cons_succ]
      refine wpAnyH_take (i := 17) (oi := ⟨some 102, _, _, _, _, _⟩) (v := ?va17) rfl (by kernel_rfl) (by kernel_rfl) (by kernel_rfl) (fun _ _ _ h => h) (Or.inl ⟨by rfl, ?hya17⟩) hHeld ?rra17
      case hya17 => (intro w hSw; (try dsimp only at hSw); go_simp; try with_reducible rfl)
      try simp only [Act.put, List.setIfInBounds_toArray, List.set_cons_zero, List.set_cons_succ]
      refine wpAnyH_ready (rs := [7]) (by kernel_rfl) (by simp) ?_
      refine AllReadyH.cons (o := ⟨some 92, _, _, _, _, _⟩) rfl (fun K hK => ?_) AllReadyH.nil
      go_simp
      go_at_call 15
      refine (pick_any by0 255 _ l2 u2 (by decide) (by decide)).mono ?_
      rintro e w8 ⟨rfl, rfl⟩
      rw [hm]
      refine hK.out _ _ (trivial) (fun hHeld2 => ?_)
      clear hK K hHeld
      have hHeld := hHeld2
      clear hHeld2
      try simp only [Act.put, List.setIfInBounds_toArray, List.set_cons_zero, List.set_cons_succ]
      refine wpAnyH_take (i := 8) (oi := ⟨some 93, _, _, _, _, _⟩) (v := ?va8) rfl (by kernel_rfl) (by kernel_rfl) (by kernel_rfl) (fun _ _ _ h => h) (Or.inl ⟨by rfl, ?hya8⟩) hHeld ?rra8
      case hya8 => (intro w hSw; (try dsimp only at hSw); go_simp; try with_reducible rfl)
      try simp only [Act.put, List.setIfInBounds_toArray, List.set_cons_zero, List.set_cons_succ]
      refine wpAnyH_take (i := 9) (oi := ⟨some 94, _, _, _, _, _⟩) (v := ?va9) rfl (by kernel_rfl) (by kernel_rfl) (by kernel_rfl) (fun _ _ _ h => h) (Or.inl ⟨by rfl, ?hya9⟩) hHeld ?rra9
      case hya9 => (intro w hSw; (try dsimp only at hSw); go_simp; try with_reducible rfl)
      try simp only [Act.put, List.setIfInBounds_toArray, List.set_cons_zero, List.set_cons_succ]
      try rw [hw2]
      refine wpAnyH_take (i := 10) (oi := ⟨some 95, _, _, _, _, _⟩) (v := ?va10) rfl (by kernel_rfl) (by kernel_rfl) (by kernel_rfl) (fun _ _ _ h => h) (Or.inl ⟨by rfl, ?hya10⟩) hHeld ?rra10
      case hya10 => (intro w hSw; (try dsimp only at hSw); go_simp; try with_reducible rfl)
      try simp only [Act.put, List.setIfInBounds_toArray, List.set_cons_zero, List.set_cons_succ]
      try rw [hz]
      refine wpAnyH_ready (rs := [11]) (by kernel_rfl) (by simp) ?_
      refine AllReadyH.cons (o := ⟨some 96, _, _, _, _, _⟩) rfl (fun K hK => ?_) AllReadyH.nil
      go_simp
      refine hK.out _ _ (trivial) (fun hHeld2 => ?_)
      clear hK K hHeld
      have hHeld := hHeld2
      clear hHeld2
      try simp only [Act.put, List.setIfInBounds_toArray, List.set_cons_zero, List.set_cons_succ]
      have hcv := conv_one (Wx.alloc (.cells #[.int .u8 ((z.toNat : Nat) : Int)] 5)) Wx.heap.size _ bs hbs (World.cell?_alloc_new _ _ _ _)
      refine wpAnyH_ready (rs := [12]) (by kernel_rfl) (by simp) ?_
      refine AllReadyH.cons (o := ⟨some 97, _, _, _, _, _⟩) rfl (fun K hK => ?_) AllReadyH.nil
      go_simp
      refine hK.out _ _ (trivial) (fun hHeld2 => ?_)
      clear hK K hHeld
      have hHeld := hHeld2
      clear hHeld2
      try simp only [Act.put, List.setIfInBounds_toArray, List.set_cons_zero, List.set_cons_succ]
      refine wpAnyH_take (i := 13) (oi := ⟨some 98, _, _, _, _, _⟩) (v := ?vb13) rfl (by kernel_rfl) (by kernel_rfl) (by kernel_rfl) (fun _ _ _ h => h) (Or.inl ⟨by rfl, ?hyb13⟩) hHeld ?rrb13
      case hyb13 => (intro w hSw; (try dsimp only at hSw); go_simp; try with_reducible rfl)
      try simp only [Act.put, List.setIfInBounds_toArray, List.set_cons_zero, List.set_cons_succ]
      refine wpAnyH_take (i := 18) (oi := ⟨some 103, _, _, _, _, _⟩) (v := ?vb18) rfl (by kernel_rfl) (by kernel_rfl) (by kernel_rfl) (fun _ _ _ h => h) (Or.inl ⟨by rfl, ?hyb18⟩) hHeld ?rrb18
      case hyb18 => (intro w hSw; (try dsimp only at hSw); go_simp; try with_reducible rfl)
      try simp only [Act.put, List.setIfInBounds_toArray, List.set_cons_zero, List.set_cons_succ]
      refine wpAnyH_take (i := 19) (oi := ⟨some 19, _, _, _, _, _⟩) (v := ?vb19) rfl (by kernel_rfl) (by kernel_rfl) (by kernel_rfl) (fun _ _ _ h => h) (Or.inl ⟨by rfl, ?hyb19⟩) hHeld ?rrb19
      case hyb19 => (intro w hSw; (try dsimp only at hSw); go_simp; try with_reducible rfl)
      try simp only [Act.put, List.setIfInBounds_toArray, List.set_cons_zero, List.set_cons_succ]
      refine wpAnyH_done (by kernel_rfl) ?_ _
      refine NoPanic.normal ?_
      go_wp2_with fail
      go_meet
      exact ⟨rfl, hBx.alloc hBx.size _⟩
    case rest =>
      have hzs := HZS.out
      obtain ⟨rfl, hb⟩ := hcut
      clear hz hbs hi1 hi2 hi3 hi4 hw1 hw2 hw3
      replace hB := hB.trans (hb.mono hB.size)
      replace hP := blk_below hP hb (blk_lt hP)
      replace hK := blk_below hK hb (blk_lt hK)
      clear hb
      have hl9 : w2.heap.size < wc.heap.size := blk_lt hP
      clear hK s1 s2 hq1 hq2
      obtain ⟨O1, O2⟩ := HO.out j bs z (by omega) hbl (fun _ => hza)
      have O1' := Lib.hid O1
      have O2' := Lib.hid O2
      clear O1 O2 HO hza hbl
      obtain ⟨ot, hot⟩ : ∃ ot, (s.extract 0 j ++ bs) ++ s.extract (j + 1) s.size = ot := ⟨_, rfl⟩
      rw [hot] at O1' O2'
      try rw [hot]
      clear hot hbz
      go_wp2_with fail
      refine (O1'.out _).mono ?_
      rintro e w10 ⟨rfl, hb⟩
      replace hB := hB.trans (hb.mono hB.size)
      replace hP := blk_below hP hb (blk_lt hP)
      clear hb
      replace hB := hB.alloc hB.size (po pz)
      replace hP := blk_alloc hP (po pz)
      go_wp2_with fail
      refine (O2'.out _).mono ?_
      rintro e w11 ⟨rfl, hb⟩
      replace hB := hB.trans (hb.mono hB.size)
      replace hP := blk_below hP hb (blk_lt hP)
      clear hb
      replace hB := hB.alloc hB.size (po pz)
      replace hP := blk_alloc hP (po pz)
      clear O1' O2'
      have hl11 : w2.heap.size < (w11.alloc (po pz)).heap.size := blk_lt hP
      obtain ⟨c0, cf0⟩ := blk_cell (k := 0) hP rfl
      obtain ⟨c1, cf1⟩ := blk_cell (k := 1) hP rfl
      obtain ⟨c2, cf2⟩ := blk_cell (k := 2) hP rfl
      obtain ⟨c3, cf3⟩ := blk_cell (k := 3) hP rfl
      obtain ⟨c4, cf4⟩ := blk_cell (k := 4) hP rfl
      obtain ⟨c5, cf5⟩ := blk_cell (k := 5) hP rfl
      obtain ⟨c6, cf6⟩ := blk_cell (k := 6) hP rfl
      obtain ⟨c7, cf7⟩ := blk_cell (k := 7) hP rfl
      obtain ⟨c8, cf8⟩ := blk_cell (k := 8) hP rfl
      simp only [List.getElem_toArray, List.getElem_cons_zero, List.getElem_cons_succ] at c0 c1 c2 c3 c4 c5 c6 c7 c8
      clear cf0 cf1 cf2 cf3 cf4 cf5 cf6 cf7 cf8
      obtain ⟨pk1, pk2⟩ := pickZ_bd at0 ((p.s.size : Int) + 1) (by omega)
      obtain ⟨k, hk⟩ : ∃ k : Nat, pickZ at0 ((p.s.size : Int) + 1) = (k : Int) := ⟨(pickZ at0 ((p.s.size : Int) + 1)).toNat, by omega⟩
      rw [hk] at pk1 pk2
      have hkl : k ≤ p.s.size := by omega
      go_wp2_with fail
      refine (pick_any at0 ((p.s.size : Int) + 1) _ l1 u1 (by omega) (by omega)).mono ?_
      rintro e w12 ⟨rfl, rfl⟩
      rw [hk]
      clear hk pk1 pk2
      have hn1 : (20 + (k : Int)) ≤ (s.size : Int) := by omega
      have HHk := HH.out (20 + k) (by omega) (by omega)
      rw [Nat.add_sub_cancel_left] at HHk
      have HK := Lib.hid HHk
      clear HHk HH
      go_wp2_with fail
      refine (HK.out _).mono ?_
      rintro e w12 ⟨rfl, hb⟩
      replace hB := hB.trans (hb.mono hB.size)
      replace hP := blk_below hP hb (blk_lt hP)
      clear hb
      clear c0 c1 c2 c3 c4 c5 c6 c7 c8
      have hl12 : w2.heap.size < w12.heap.size := blk_lt hP
      have hC := blk_new w12 (po ⟨p.fr, p.to, p.pr, p.tt, p.id, p.df, p.mf, p.off, p.s.extract 0 k⟩)
      replace hB := hB.alloc hB.size (po ⟨p.fr, p.to, p.pr, p.tt, p.id, p.df, p.mf, p.off, p.s.extract 0 k⟩)
      replace hP := blk_alloc hP (po ⟨p.fr, p.to, p.pr, p.tt, p.id, p.df, p.mf, p.off, p.s.extract 0 k⟩)
      have hl13 : w12.heap.size < (w12.alloc (po ⟨p.fr, p.to, p.pr, p.tt, p.id, p.df, p.mf, p.off, p.s.extract 0 k⟩)).heap.size := by simp
      obtain ⟨c0, cf0⟩ := blk_cell (k := 0) hP rfl
      obtain ⟨c1, cf1⟩ := blk_cell (k := 1) hP rfl
      obtain ⟨c2, cf2⟩ := blk_cell (k := 2) hP rfl
      obtain ⟨c3, cf3⟩ := blk_cell (k := 3) hP rfl
      obtain ⟨c4, cf4⟩ := blk_cell (k := 4) hP rfl
      obtain ⟨c5, cf5⟩ := blk_cell (k := 5) hP rfl
      obtain ⟨c6, cf6⟩ := blk_cell (k := 6) hP rfl
      obtain ⟨c7, cf7⟩ := blk_cell (k := 7) hP rfl
      obtain ⟨c8, cf8⟩ := blk_cell (k := 8) hP rfl
      simp only [List.getElem_toArray, List.getElem_cons_zero, List.getElem_cons_succ] at c0 c1 c2 c3 c4 c5 c6 c7 c8
      clear cf0 cf1 cf2 cf3 cf4 cf5 cf6 cf7 cf8
      obtain ⟨d0, df0⟩ := blk_cell (k := 0) hC rfl
      obtain ⟨d1, df1⟩ := blk_cell (k := 1) hC rfl
      obtain ⟨d2, df2⟩ := blk_cell (k := 2) hC rfl
      obtain ⟨d3, df3⟩ := blk_cell (k := 3) hC rfl
      obtain ⟨d4, df4⟩ := blk_cell (k := 4) hC rfl
      obtain ⟨d5, df5⟩ := blk_cell (k := 5) hC rfl
      obtain ⟨d6, df6⟩ := blk_cell (k := 6) hC rfl
      obtain ⟨d7, df7⟩ := blk_cell (k := 7) hC rfl
      obtain ⟨d8, df8⟩ := blk_cell (k := 8) hC rfl
      simp only [List.getElem_toArray, List.getElem_cons_zero, List.getElem_cons_succ] at d0 d1 d2 d3 d4 d5 d6 d7 d8
      clear df0 df1 df2 df3 df4 df5 df6 df7 df8
      have hk1 : (k : Int) ≤ (p.s.size : Int) := by omega
      have hk2 : (j : Int) ≤ (s.size : Int) := by omega
      clear hzs HZS
      have hwk : wrap64 (20 + (k : Int) - 20) = (k : Int) := by rw [wrap64_id _ (by omega) (by omega)]; omega
      have hW : ((w12.alloc (po ⟨p.fr, p.to, p.pr, p.tt, p.id, p.df, p.mf, p.off, p.s.extract 0 k⟩)).alloc (po ⟨p.fr, p.to, p.pr, p.tt, p.id, p.df, p.mf, p.off, p.s.extract 0 k⟩)).heap[w12.heap.size + 1]? = some (po ⟨p.fr, p.to, p.pr, p.tt, p.id, p.df, p.mf, p.off, p.s.extract 0 k⟩) := by
        have := blk_new (w12.alloc (po ⟨p.fr, p.to, p.pr, p.tt, p.id, p.df, p.mf, p.off, p.s.extract 0 k⟩)) (po ⟨p.fr, p.to, p.pr, p.tt, p.id, p.df, p.mf, p.off, p.s.extract 0 k⟩)
        rw [World.size_alloc] at this; exact this
      go_wp2_with fail
      replace hB := hB.alloc hB.size (po ⟨p.fr, p.to, p.pr, p.tt, p.id, p.df, p.mf, p.off, p.s.extract 0 k⟩)
      replace hP := blk_alloc hP (po ⟨p.fr, p.to, p.pr, p.tt, p.id, p.df, p.mf, p.off, p.s.extract 0 k⟩)
      replace hC := blk_alloc hC (po ⟨p.fr, p.to, p.pr, p.tt, p.id, p.df, p.mf, p.off, p.s.extract 0 k⟩)
      clear c0 c1 c2 c3 c4 c5 c6 c7 c8 d0 d1 d2 d3 d4 d5 d6 d7 d8
      clear hl13
      refine (HS.out j (by omega) _).mono ?_
      rintro e w14 ⟨rfl, hb⟩
      replace hB := hB.trans (hb.mono hB.size)
      replace hP := blk_below hP hb (blk_lt hP)
      replace hC := blk_below hC hb (blk_lt hC)
      replace hW := blk_below hW hb (blk_lt hW)
      clear hb
      have hl14 : w12.heap.size + 1 < w14.heap.size := blk_lt hW
      replace hB := hB.alloc hB.size (po pz)
      replace hP := blk_alloc hP (po pz)
      replace hC := blk_alloc hC (po pz)
      replace hW := blk_alloc hW (po pz)
      obtain ⟨d0, df0⟩ := blk_cell (k := 0) hC rfl
      obtain ⟨d1, df1⟩ := blk_cell (k := 1) hC rfl
      obtain ⟨d2, df2⟩ := blk_cell (k := 2) hC rfl
      obtain ⟨d3, df3⟩ := blk_cell (k := 3) hC rfl
      obtain ⟨d4, df4⟩ := blk_cell (k := 4) hC rfl
      obtain ⟨d5, df5⟩ := blk_cell (k := 5) hC rfl
      obtain ⟨d6, df6⟩ := blk_cell (k := 6) hC rfl
      obtain ⟨d7, df7⟩ := blk_cell (k := 7) hC rfl
      obtain ⟨d8, df8⟩ := blk_cell (k := 8) hC rfl
      simp only [List.getElem_toArray, List.getElem_cons_zero, List.getElem_cons_succ] at d0 d1 d2 d3 d4 d5 d6 d7 d8
      clear df0 df1 df2 df3 df4 df5 df6 df7 df8
      obtain ⟨e0, ef0⟩ := blk_cell (k := 0) hW rfl
      obtain ⟨e1, ef1⟩ := blk_cell (k := 1) hW rfl
      obtain ⟨e2, ef2⟩ := blk_cell (k := 2) hW rfl
      obtain ⟨e3, ef3⟩ := blk_cell (k := 3) hW rfl
      obtain ⟨e4, ef4⟩ := blk_cell (k := 4) hW rfl
      obtain ⟨e5, ef5⟩ := blk_cell (k := 5) hW rfl
      obtain ⟨e6, ef6⟩ := blk_cell (k := 6) hW rfl
      obtain ⟨e7, ef7⟩ := blk_cell (k := 7) hW rfl
      obtain ⟨e8, ef8⟩ := blk_cell (k := 8) hW rfl
      simp only [List.getElem_toArray, List.getElem_cons_zero, List.getElem_cons_succ] at e0 e1 e2 e3 e4 e5 e6 e7 e8
      clear ef0 ef1 ef2 ef3 ef4 ef5 ef6 ef7 ef8
      go_wp2
      go_ret
      exact ⟨rfl, hB⟩
end Go.Proofs.Ytgoakefkiedhmaa

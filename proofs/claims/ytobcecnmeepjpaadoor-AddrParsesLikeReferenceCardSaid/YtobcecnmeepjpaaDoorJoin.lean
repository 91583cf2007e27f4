/- The contract of join. -/
import Derived.Test.YtobcecnmeepjpaaDoorNum
namespace Go.Proofs.YtobcecnmeepjpaaDoor
open Go.RowKit
set_option linter.unusedVariables false

theorem num_some {s : ByteArray} {m v : Int} (w : World) (hs : s.size ≤ 281474976710656) (lm : -9223372036854775808 ≤ m) (um : m ≤ 9223372036854775807) (E : Env w) (h : numZ s.data.toList m = some v) :
    Calls Tryd.prog 37 #[.string s, .int .i64 m] w fun e w' => e = .returned (.tuple #[.int .i64 v, .bool true]) ∧ Below w.heap.size w w' := by
  have := num_any s m w hs E lm um
  rw [h] at this
  exact this
theorem num_none {s : ByteArray} {m : Int} (w : World) (hs : s.size ≤ 281474976710656) (lm : -9223372036854775808 ≤ m) (um : m ≤ 9223372036854775807) (E : Env w) (h : numZ s.data.toList m = none) :
    Calls Tryd.prog 37 #[.string s, .int .i64 m] w fun e w' => e = .returned (.tuple #[.int .i64 0, .bool false]) ∧ Below w.heap.size w w' := by
  have := num_any s m w hs E lm um
  rw [h] at this
  exact this

/-- the number of which the fields are the bytes, behind acc -/
def joinL : List (List UInt8) → Int → Option Int
  | [], acc => some acc
  | f :: r, acc => match numZ f 255 with
    | some n => joinL r (acc * 256 + n)
    | none => none
theorem joinL_some {f : List UInt8} {r : List (List UInt8)} {acc n : Int} (h : numZ f 255 = some n) : joinL (f :: r) acc = joinL r (acc * 256 + n) := by rw [joinL, h]
theorem joinL_none {f : List UInt8} {r : List (List UInt8)} {acc : Int} (h : numZ f 255 = none) : joinL (f :: r) acc = none := by rw [joinL, h]
theorem shl_or (a n : Int) (h0 : 0 ≤ a) (h1 : a < 4294967296) (h2 : 0 ≤ n) (h3 : n ≤ 255) : bits .or .i64 (a * 256) n = a * 256 + n := by
  obtain ⟨x, rfl⟩ := Int.eq_ofNat_of_zero_le h0
  obtain ⟨y, rfl⟩ := Int.eq_ofNat_of_zero_le h2
  have e : (x : Int) * 256 = ((x * 256 : Nat) : Int) := by omega
  rw [e, i64_or_nat _ _ (by omega) (by omega)]
  have := Nat.shiftLeft_add_eq_or_of_lt (a := x) (b := y) (i := 8) (by omega)
  rw [Nat.shiftLeft_eq] at this
  rw [show (2 : Nat) ^ 8 = 256 from rfl] at this
  rw [← this]
  omega

set_option maxRecDepth 20000 in
set_option maxHeartbeats 4000000 in
theorem join_any (f0 f1 f2 f3 : ByteArray) (w : World) (h0 : f0.size ≤ 281474976710656) (h1 : f1.size ≤ 281474976710656) (h2 : f2.size ≤ 281474976710656) (h3 : f3.size ≤ 281474976710656) (E : Env w) :
    Calls Tryd.prog 34 #[.agg #[.string f0, .string f1, .string f2, .string f3]] w fun e w' => e = .returned (.tuple #[.int .i64 ((joinL [f0.data.toList, f1.data.toList, f2.data.toList, f3.data.toList] 0).getD 0), .int .i64 (if (joinL [f0.data.toList, f1.data.toList, f2.data.toList, f3.data.toList] 0).isSome then 0 else 30)]) ∧ Below w.heap.size w w' := by
  obtain ⟨R, hR⟩ : ∃ R, joinL [f0.data.toList, f1.data.toList, f2.data.toList, f3.data.toList] 0 = R := ⟨_, rfl⟩
  rw [hR]
  obtain ⟨eV, hV⟩ : ∃ x, R.getD 0 = x := ⟨_, rfl⟩
  obtain ⟨eE, hE⟩ : ∃ x : Int, (if R.isSome then 0 else 30) = x := ⟨_, rfl⟩
  rw [hV, hE]
  have HV := Lib.hid hV
  have HQ := Lib.hid hE
  clear hV hE
  have E1 := E.stay (w' := w.alloc (.cells #[.string f0, .string f1, .string f2, .string f3] 50)) ((Below.refl _ _).alloc (Nat.le_refl _) _)
  have H0 := fun w v (E : Env w) (h : numZ f0.data.toList 255 = some v) => Lib.hid (num_some w h0 (by decide) (by decide) E h)
  have N0 := fun w (E : Env w) (h : numZ f0.data.toList 255 = none) => Lib.hid (num_none w h0 (by decide) (by decide) E h)
  have H1 := fun w v (E : Env w) (h : numZ f1.data.toList 255 = some v) => Lib.hid (num_some w h1 (by decide) (by decide) E h)
  have N1 := fun w (E : Env w) (h : numZ f1.data.toList 255 = none) => Lib.hid (num_none w h1 (by decide) (by decide) E h)
  have H2 := fun w v (E : Env w) (h : numZ f2.data.toList 255 = some v) => Lib.hid (num_some w h2 (by decide) (by decide) E h)
  have N2 := fun w (E : Env w) (h : numZ f2.data.toList 255 = none) => Lib.hid (num_none w h2 (by decide) (by decide) E h)
  have H3 := fun w v (E : Env w) (h : numZ f3.data.toList 255 = some v) => Lib.hid (num_some w h3 (by decide) (by decide) E h)
  have N3 := fun w (E : Env w) (h : numZ f3.data.toList 255 = none) => Lib.hid (num_none w h3 (by decide) (by decide) E h)
  clear E
  have i0 : ∀ w, (Instr.index 50 (.agg #[.string f0, .string f1, .string f2, .string f3]) (.int .i64 0)).run Tryd.prog w = .ok (.string f0) w := fun _ => by kernel_rfl
  have i1 : ∀ w, (Instr.index 50 (.agg #[.string f0, .string f1, .string f2, .string f3]) (.int .i64 1)).run Tryd.prog w = .ok (.string f1) w := fun _ => by kernel_rfl
  have i2 : ∀ w, (Instr.index 50 (.agg #[.string f0, .string f1, .string f2, .string f3]) (.int .i64 2)).run Tryd.prog w = .ok (.string f2) w := fun _ => by kernel_rfl
  have i3 : ∀ w, (Instr.index 50 (.agg #[.string f0, .string f1, .string f2, .string f3]) (.int .i64 3)).run Tryd.prog w = .ok (.string f3) w := fun _ => by kernel_rfl
  have HH0 := Lib.hid H0
  have NN0 := Lib.hid N0
  clear H0 N0
  have HH1 := Lib.hid H1
  have NN1 := Lib.hid N1
  clear H1 N1
  have HH2 := Lib.hid H2
  have NN2 := Lib.hid N2
  clear H2 N2
  have HH3 := Lib.hid H3
  have NN3 := Lib.hid N3
  clear H3 N3
  have HR := Lib.hid hR
  have HE := Lib.hid E1
  clear hR E1 h0 h1 h2 h3
  go_enter Tryd.func34, Tryd.ntmps34
  go_wp2_with fail
  go_loopw [4, 10] (fun a i wr => ∃ (k : Nat) (i0 acc : Int), k ≤ 4 ∧ i0 = k ∧ i = .int .i64 i0 ∧ a = .int .i64 acc ∧ 0 ≤ acc ∧ acc < 256 ^ k ∧ Hid (joinL (List.drop k [f0.data.toList, f1.data.toList, f2.data.toList, f3.data.toList]) acc = R) ∧ Below w.heap.size w wr ∧ Env wr) (fun _ i _ => 4 - (intOf i).toNat)
  case atStart => exact ⟨0, 0, 0, by omega, rfl, rfl, rfl, by omega, by decide, Lib.hid HR.out, (Below.refl _ _).alloc (Nat.le_refl _) _, HE.out⟩
  case round =>
    obtain ⟨k, i0, acc, hk, hi0, rfl, rfl, ha0, ha1, HJ, hB, hE⟩ := hrel
    clear HR HE
    have hk' : k = 0 ∨ k = 1 ∨ k = 2 ∨ k = 3 ∨ k = 4 := by omega
    rcases hk' with rfl | rfl | rfl | rfl | rfl
    · obtain rfl : i0 = 0 := by omega
      clear hi0 hk
      have hJ : joinL (f0.data.toList :: f1.data.toList :: f2.data.toList :: f3.data.toList :: []) acc = R := HJ.out
      clear HJ
      have ha2 : acc < 4294967296 := by have : (256 : Int) ^ 0 ≤ 16777216 := by decide
                                        omega
      have ha3 : acc * 256 < 256 ^ 1 - 255 := by
        have e1 : (256 : Int) ^ 0 = 1 := by decide
        have e2 : (256 : Int) ^ 1 = 256 := by decide
        rw [e1] at ha1; rw [e2]; omega
      have HA3 := Lib.hid ha3
      clear ha1 ha3
      cases hn : numZ f0.data.toList 255 with
      | some v =>
        have hb := numZ_bd hn
        rw [joinL_some hn] at hJ
        have Hc := HH0.out _ v hE hn
        have Ho := Lib.hid (shl_or acc v ha0 ha2 hb.1 hb.2.1)
        have hv0 := hb.1
        have hv1 := hb.2.1
        have HJ := Lib.hid hJ
        have HE := Lib.hid hE
        clear hb hn hJ hE HH0 HH1 HH2 HH3 NN0 NN1 NN2 NN3
        go_wp2_with fail
        refine Hc.out.mono ?_
        rintro e w2 ⟨rfl, hb2⟩
        have HE2 := Lib.hid (HE.out.stay hb2)
        have hB2 := hB.trans (hb2.mono hB.size)
        clear hb2 hB HE Hc
        go_wp2_with fail
        go_round
        case rel => exact ⟨1, 1, acc * 256 + v, by omega, by rfl, by go_num, by rw [Ho.out], by omega, by have := HA3.out; omega, HJ, hB2, HE2.out⟩
        case measure => simp [intOf]
      | none =>
        rw [joinL_none hn] at hJ
        have Hc := NN0.out _ hE hn
        have HJ := Lib.hid hJ
        clear hn hJ hE HH0 HH1 HH2 HH3 NN0 NN1 NN2 NN3
        go_wp2_with fail
        refine Hc.out.mono ?_
        rintro e w2 ⟨rfl, hb2⟩
        have hB2 := hB.trans (hb2.mono hB.size)
        clear hb2 hB Hc
        go_wp2_with fail
        go_ret2
        rw [← HV.out, ← HQ.out, ← HJ.out]
        exact ⟨rfl, hB2⟩
    · obtain rfl : i0 = 1 := by omega
      clear hi0 hk
      have hJ : joinL (f1.data.toList :: f2.data.toList :: f3.data.toList :: []) acc = R := HJ.out
      clear HJ
      have ha2 : acc < 4294967296 := by have : (256 : Int) ^ 1 ≤ 16777216 := by decide
                                        omega
      have ha3 : acc * 256 < 256 ^ 2 - 255 := by
        have e1 : (256 : Int) ^ 1 = 256 := by decide
        have e2 : (256 : Int) ^ 2 = 65536 := by decide
        rw [e1] at ha1; rw [e2]; omega
      have HA3 := Lib.hid ha3
      clear ha1 ha3
      cases hn : numZ f1.data.toList 255 with
      | some v =>
        have hb := numZ_bd hn
        rw [joinL_some hn] at hJ
        have Hc := HH1.out _ v hE hn
        have Ho := Lib.hid (shl_or acc v ha0 ha2 hb.1 hb.2.1)
        have hv0 := hb.1
        have hv1 := hb.2.1
        have HJ := Lib.hid hJ
        have HE := Lib.hid hE
        clear hb hn hJ hE HH0 HH1 HH2 HH3 NN0 NN1 NN2 NN3
        go_wp2_with fail
        refine Hc.out.mono ?_
        rintro e w2 ⟨rfl, hb2⟩
        have HE2 := Lib.hid (HE.out.stay hb2)
        have hB2 := hB.trans (hb2.mono hB.size)
        clear hb2 hB HE Hc
        go_wp2_with fail
        go_round
        case rel => exact ⟨2, 2, acc * 256 + v, by omega, by rfl, by go_num, by rw [Ho.out], by omega, by have := HA3.out; omega, HJ, hB2, HE2.out⟩
        case measure => simp [intOf]
      | none =>
        rw [joinL_none hn] at hJ
        have Hc := NN1.out _ hE hn
        have HJ := Lib.hid hJ
        clear hn hJ hE HH0 HH1 HH2 HH3 NN0 NN1 NN2 NN3
        go_wp2_with fail
        refine Hc.out.mono ?_
        rintro e w2 ⟨rfl, hb2⟩
        have hB2 := hB.trans (hb2.mono hB.size)
        clear hb2 hB Hc
        go_wp2_with fail
        go_ret2
        rw [← HV.out, ← HQ.out, ← HJ.out]
        exact ⟨rfl, hB2⟩
    · obtain rfl : i0 = 2 := by omega
      clear hi0 hk
      have hJ : joinL (f2.data.toList :: f3.data.toList :: []) acc = R := HJ.out
      clear HJ
      have ha2 : acc < 4294967296 := by have : (256 : Int) ^ 2 ≤ 16777216 := by decide
                                        omega
      have ha3 : acc * 256 < 256 ^ 3 - 255 := by
        have e1 : (256 : Int) ^ 2 = 65536 := by decide
        have e2 : (256 : Int) ^ 3 = 16777216 := by decide
        rw [e1] at ha1; rw [e2]; omega
      have HA3 := Lib.hid ha3
      clear ha1 ha3
      cases hn : numZ f2.data.toList 255 with
      | some v =>
        have hb := numZ_bd hn
        rw [joinL_some hn] at hJ
        have Hc := HH2.out _ v hE hn
        have Ho := Lib.hid (shl_or acc v ha0 ha2 hb.1 hb.2.1)
        have hv0 := hb.1
        have hv1 := hb.2.1
        have HJ := Lib.hid hJ
        have HE := Lib.hid hE
        clear hb hn hJ hE HH0 HH1 HH2 HH3 NN0 NN1 NN2 NN3
        go_wp2_with fail
        refine Hc.out.mono ?_
        rintro e w2 ⟨rfl, hb2⟩
        have HE2 := Lib.hid (HE.out.stay hb2)
        have hB2 := hB.trans (hb2.mono hB.size)
        clear hb2 hB HE Hc
        go_wp2_with fail
        go_round
        case rel => exact ⟨3, 3, acc * 256 + v, by omega, by rfl, by go_num, by rw [Ho.out], by omega, by have := HA3.out; omega, HJ, hB2, HE2.out⟩
        case measure => simp [intOf]
      | none =>
        rw [joinL_none hn] at hJ
        have Hc := NN2.out _ hE hn
        have HJ := Lib.hid hJ
        clear hn hJ hE HH0 HH1 HH2 HH3 NN0 NN1 NN2 NN3
        go_wp2_with fail
        refine Hc.out.mono ?_
        rintro e w2 ⟨rfl, hb2⟩
        have hB2 := hB.trans (hb2.mono hB.size)
        clear hb2 hB Hc
        go_wp2_with fail
        go_ret2
        rw [← HV.out, ← HQ.out, ← HJ.out]
        exact ⟨rfl, hB2⟩
    · obtain rfl : i0 = 3 := by omega
      clear hi0 hk
      have hJ : joinL (f3.data.toList :: []) acc = R := HJ.out
      clear HJ
      have ha2 : acc < 4294967296 := by have : (256 : Int) ^ 3 ≤ 16777216 := by decide
                                        omega
      have ha3 : acc * 256 < 256 ^ 4 - 255 := by
        have e1 : (256 : Int) ^ 3 = 16777216 := by decide
        have e2 : (256 : Int) ^ 4 = 4294967296 := by decide
        rw [e1] at ha1; rw [e2]; omega
      have HA3 := Lib.hid ha3
      clear ha1 ha3
      cases hn : numZ f3.data.toList 255 with
      | some v =>
        have hb := numZ_bd hn
        rw [joinL_some hn] at hJ
        have Hc := HH3.out _ v hE hn
        have Ho := Lib.hid (shl_or acc v ha0 ha2 hb.1 hb.2.1)
        have hv0 := hb.1
        have hv1 := hb.2.1
        have HJ := Lib.hid hJ
        have HE := Lib.hid hE
        clear hb hn hJ hE HH0 HH1 HH2 HH3 NN0 NN1 NN2 NN3
        go_wp2_with fail
        refine Hc.out.mono ?_
        rintro e w2 ⟨rfl, hb2⟩
        have HE2 := Lib.hid (HE.out.stay hb2)
        have hB2 := hB.trans (hb2.mono hB.size)
        clear hb2 hB HE Hc
        go_wp2_with fail
        go_round
        case rel => exact ⟨4, 4, acc * 256 + v, by omega, by rfl, by go_num, by rw [Ho.out], by omega, by have := HA3.out; omega, HJ, hB2, HE2.out⟩
        case measure => simp [intOf]
      | none =>
        rw [joinL_none hn] at hJ
        have Hc := NN3.out _ hE hn
        have HJ := Lib.hid hJ
        clear hn hJ hE HH0 HH1 HH2 HH3 NN0 NN1 NN2 NN3
        go_wp2_with fail
        refine Hc.out.mono ?_
        rintro e w2 ⟨rfl, hb2⟩
        have hB2 := hB.trans (hb2.mono hB.size)
        clear hb2 hB Hc
        go_wp2_with fail
        go_ret2
        rw [← HV.out, ← HQ.out, ← HJ.out]
        exact ⟨rfl, hB2⟩
    · obtain rfl : i0 = 4 := by omega
      clear hi0 hk ha1
      have hJ : joinL [] acc = R := HJ.out
      have HJ2 := Lib.hid hJ
      clear hJ HJ
      clear hE HH0 HH1 HH2 HH3 NN0 NN1 NN2 NN3
      go_wp2_with fail
      go_ret2
      rw [← HV.out, ← HQ.out, ← HJ2.out]
      exact ⟨rfl, hB⟩
end Go.Proofs.YtobcecnmeepjpaaDoor

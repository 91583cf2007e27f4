/- The statements' own sanity. -/
import Derived.Test.YtpkfjlbjahghgaaAtRcv2
import Derived.Test.YtpkfjlbjahghgaaAeDec
namespace Go.Proofs.Ytpkfjlbjahghgaa
open Go.RowKit Go.Maps
set_option linter.unusedVariables false
attribute [local go_sem] Oper.semAt_some

theorem decV_enc (o f m t n : Int) (h : okA o f m t n) : decV (encA o f m t n) = av o f m t n ∧ decE (encA o f m t n) = 0 := by
  have hd := decA_enc o f m t n h
  obtain ⟨e1, e2, e3, e4, e5⟩ := encA_parts o f m t n h
  unfold decV decE
  rw [if_pos hd, if_pos hd, e1, e2, e3, e4, e5]
  exact ⟨rfl, rfl⟩
theorem arps_blk {w : World} {b : Nat} {o f m t n : Int} (h : w.heap[b]? = some (ao o f m t n)) : ArpsAt w (.slice (some ⟨b, 0, none⟩) 1 1) [⟨o, f, m, t, n⟩] := arps_one h
theorem hps_two {w : World} {b : Nat} {t m t2 m2 : Int} {s s2 : ByteArray} (h : w.heap[b]? = some (.cells #[.int .i64 t, .int .i64 m, .string s, .int .i64 t2, .int .i64 m2, .string s2] 65)) : HpsAt w (.slice (some ⟨b, 0, none⟩) 2 2) [⟨t, m, s⟩, ⟨t2, m2, s2⟩] := by
  refine .inr ⟨b, 0, 2, rfl, fun j hj => ?_⟩
  have : j = 0 ∨ j = 1 := by simp at hj; omega
  rcases this with rfl | rfl
  · exact ⟨(blk_cell (k := 0) h rfl).1, (blk_cell (k := 1) h rfl).1, (blk_cell (k := 2) h rfl).1⟩
  · exact ⟨(blk_cell (k := 3) h rfl).1, (blk_cell (k := 4) h rfl).1, (blk_cell (k := 5) h rfl).1⟩

abbrev sA : ByteArray := ⟨#[97]⟩
abbrev sB : ByteArray := ⟨#[98]⟩
set_option maxRecDepth 100000 in
set_option maxHeartbeats 8000000 in
theorem sanity_any (w : World) :
    Calls Try.prog 12 #[] w fun e w' => e = .returned (.bool true) ∧ Below w.heap.size w w' := by
  have hok : okA 1 10 1 11 0 := by decide
  have hz := encA_size 1 10 1 11 0
  have hd := decV_enc 1 10 1 11 0 hok
  have HD := Lib.hid hd
  clear hd
  go_enter Try.func12, Try.ntmps12
  go_wp2_with fail
  refine (new_ok 10 1 _ (by decide) (by decide)).mono ?_
  rintro e w1 ⟨rfl, hb1, ht1⟩
  have S1 := Lib.hid (St.init hb1 ht1)
  clear hb1 ht1
  obtain ⟨T, hTT⟩ : ∃ T, w.heap.size + 1 = T := ⟨_, rfl⟩
  obtain ⟨mb, hMB⟩ : ∃ m, w.heap.size = m := ⟨_, rfl⟩
  rw [hTT]
  rw [hTT, show St w w1 T w.heap.size 10 1 false 0 [] [] = St w w1 T mb 10 1 false 0 [] [] by rw [hMB]] at S1
  clear hTT hMB
  go_wp2_with fail
  refine (send_new S1.out.tab 0 11 sA (by decide) rfl (by decide)).mono ?_
  rintro e w2 ⟨v1, rfl, ha1, ht2⟩
  obtain ⟨R2, S2', -, o2⟩ := S1.out.step ht2
  have S2 : Hid (St w w2 T mb 10 1 false 0 R2 [newE 11 0 sA]) := Lib.hid S2'
  have A1 := Lib.hid (And.intro ha1 (o2 v1 (by simp)))
  clear ht2 S2' o2 ha1 S1
  obtain ⟨p2, rfl, hp2⟩ := ents_one S2.out.ents
  have HP2 := Lib.hid hp2
  clear hp2
  go_wp2_with fail
  refine (send_hold S2.out.tab 1 11 sB (by decide) (p := p2) (by simp [lookP, HP2.out, newE]) (by rw [HP2.out]; rfl) (by rw [HP2.out]; decide)).mono ?_
  rintro e w3 ⟨rfl, ht3⟩
  have eL : updE ([p2].map (·.x)) 11 (fun x => { x with held := x.held ++ [sB] }) = [⟨11, false, 0, 0, 0, [sA, sB], 1, 0, 0⟩] := by simp [updE, HP2.out, newE]
  rw [eL] at ht3
  obtain ⟨R3, S3', k3, -⟩ := S2.out.step (ht3.v [] (by simp))
  have S3 := Lib.hid S3'
  have A1' := Lib.hid (A1.out.1.go A1.out.2 k3)
  clear ht3 S3' k3 S2 A1 eL HP2
  obtain ⟨p3, rfl, hp3⟩ := ents_one S3.out.ents
  have HP3 := Lib.hid hp3
  clear hp3
  go_wp2_with fail
  refine (recv_told_yes S3.out.tab 2 11 7 1 (by decide) (by decide) (p := p3) (by simp [lookP, HP3.out]) (by rw [HP3.out]) (by rw [HP3.out]; decide) (by simp)).mono ?_
  rintro e w4 ⟨v4, rfl, ha4, ht4⟩
  have eL : setE ([p3].map (·.x)) (resE 11 2 7) = [resE 11 2 7] := by simp [setE, dropE, insE, HP3.out, resE]
  have eO : outL 11 7 p3.x.held = [⟨11, 7, sA⟩, ⟨11, 7, sB⟩] := by simp [outL, HP3.out]
  rw [eL] at ht4
  rw [eO] at ha4
  obtain ⟨R4, S4', k4, o4⟩ := S3.out.step ht4
  have S4 := Lib.hid S4'
  have A4 := Lib.hid (And.intro ha4 (o4 v4 (by simp)))
  have A1 := Lib.hid (A1'.out.1.go A1'.out.2 k4)
  clear ht4 S4' k4 S3 A1' eL eO HP3 o4 ha4
  obtain ⟨p4, rfl, hp4⟩ := ents_one S4.out.ents
  have HP4 := Lib.hid hp4
  clear hp4
  go_wp2_with fail
  refine (recv_told_no S4.out.tab 3 11 8 1 (by decide) (by decide) (by simp [askedP, lookP, HP4.out, resE, Option.filter])).mono ?_
  rintro e w5 ⟨rfl, hb5⟩
  obtain ⟨S5', k5⟩ := S4.out.stay hb5
  have S5 := Lib.hid S5'
  have A1' := Lib.hid (A1.out.1.go A1.out.2 k5)
  have A4' := Lib.hid (A4.out.1.go A4.out.2 k5)
  clear hb5 S5' k5 S4 A1 A4
  have hkn := known_tab S5.out.tab (a := 11) (by decide) (by decide)
  rw [show knL ([p4].map (·.x)) 11 = (7, true) by simp [knL, lookE, HP4.out, resE]] at hkn
  go_wp2_with fail
  refine hkn.mono ?_
  rintro e w6 ⟨rfl, rfl⟩
  clear hkn
  go_wp2_with fail
  refine (recv_loud S5.out.tab 4 1 9 12 0 (by decide) (by decide) (by decide) (by decide) (by decide) (by decide)).mono ?_
  rintro e w7 ⟨v7, rfl, ha7, ht7⟩
  obtain ⟨R7, S7', k7, o7⟩ := S5.out.step ht7
  have S7 := Lib.hid S7'
  have A7 := Lib.hid (And.intro ha7 (o7 v7 (by simp)))
  have A1 := Lib.hid (A1'.out.1.go A1'.out.2 k7)
  have A4 := Lib.hid (A4'.out.1.go A4'.out.2 k7)
  clear ht7 S7' k7 S5 A1' A4' o7 ha7
  go_wp2_with fail
  refine (send_bad S7.out.tab 5 10 sA (by decide)).mono ?_
  rintro e w8 ⟨rfl, rfl⟩
  go_wp2_with fail
  refine (new_bad 0 1 _ (by decide)).mono ?_
  rintro e w8 ⟨rfl, rfl⟩
  go_wp2_with fail
  refine (encode_yes 1 10 1 11 0 _ hok).mono ?_
  rintro e w9 ⟨rfl, hb9⟩
  revert hz HD
  generalize encA 1 10 1 11 0 = E
  intro hz HD
  obtain ⟨S9', k9⟩ := S7.out.stay hb9
  have S9 := Lib.hid S9'
  have A1' := Lib.hid (A1.out.1.go A1.out.2 k9)
  have A4' := Lib.hid (A4.out.1.go A4.out.2 k9)
  have A7' := Lib.hid (A7.out.1.go A7.out.2 k9)
  clear S9' k9 S7 A1 A4 A7 hb9
  have HZ := Lib.hid hz
  clear hz
  go_wp2_with fail
  refine (decode_any E _ (by unfold maxLen; have := HZ.out; omega)).mono ?_
  rintro e w10 ⟨rfl, hb10⟩
  rw [HD.out.1, HD.out.2]
  obtain ⟨S10', k10⟩ := S9.out.stay hb10
  have S10 := Lib.hid S10'
  have A1 := Lib.hid (A1'.out.1.go A1'.out.2 k10)
  have A4 := Lib.hid (A4'.out.1.go A4'.out.2 k10)
  have A7 := Lib.hid (A7'.out.1.go A7'.out.2 k10)
  clear S10' k10 S9 A1' A4' A7' hb10
  go_wp2_with fail
  have hbA : Below w10.heap.size w10 ((((w10.alloc (ao 1 10 1 11 0)).alloc (ao 1 10 1 11 0)).alloc (ao 1 10 1 10 0)).alloc (ao 1 10 1 11 0)) := ((((Below.refl _ w10).alloc (Nat.le_refl _) _).alloc (by simp) _).alloc (by simp; omega) _).alloc (by simp; omega) _
  obtain ⟨S11', k11⟩ := S10.out.stay hbA
  have B1 := Lib.hid (A1.out.1.go A1.out.2 k11)
  have B4 := Lib.hid (A4.out.1.go A4.out.2 k11)
  have B7 := Lib.hid (A7.out.1.go A7.out.2 k11)
  have S11 := Lib.hid S11'
  have n1 := arps_one (blk_new (((w10.alloc (ao 1 10 1 11 0)).alloc (ao 1 10 1 11 0)).alloc (ao 1 10 1 10 0)) (ao 1 10 1 11 0))
  simp only [World.size_alloc] at n1
  have r1 := blk_alloc (blk_alloc (blk_alloc (blk_new w10 (ao 1 10 1 11 0)) (ao 1 10 1 11 0)) (ao 1 10 1 10 0)) (ao 1 10 1 11 0)
  have r2 := blk_alloc (blk_alloc (blk_new (w10.alloc (ao 1 10 1 11 0)) (ao 1 10 1 11 0)) (ao 1 10 1 10 0)) (ao 1 10 1 11 0)
  have r3 := blk_alloc (blk_new ((w10.alloc (ao 1 10 1 11 0)).alloc (ao 1 10 1 11 0)) (ao 1 10 1 10 0)) (ao 1 10 1 11 0)
  simp only [World.size_alloc] at r1 r2 r3
  clear S11' k11 S10 A1 A4 A7 hbA
  refine (rsameA_any v1 _ _ _ _ B1.out.1 n1 (by decide)).mono ?_
  rintro e w12 ⟨rfl, hb12⟩
  rw [show decide ([(⟨1, 10, 1, 11, 0⟩ : Ms)] = [⟨1, 10, 1, 11, 0⟩]) = true by decide]
  obtain ⟨S12', k12⟩ := S11.out.stay hb12
  have A1 := Lib.hid (B1.out.1.go B1.out.2 k12)
  have A4 := Lib.hid (B4.out.1.go B4.out.2 k12)
  have A7 := Lib.hid (B7.out.1.go B7.out.2 k12)
  have S12 := Lib.hid S12'
  have q1 := Lib.hid (blk_below r1 hb12 (blk_lt r1))
  have q2 := Lib.hid (blk_below r2 hb12 (blk_lt r2))
  have q3 := Lib.hid (blk_below r3 hb12 (blk_lt r3))
  clear S12' k12 S11 B1 B4 B7 r1 r2 r3 n1 hb12
  go_wp2_with fail
  have hbB : Below w12.heap.size w12 (w12.alloc (.cells #[.int .i64 11, .int .i64 7, .string sA, .int .i64 11, .int .i64 7, .string sB] 65)) := (Below.refl _ w12).alloc (Nat.le_refl _) _
  obtain ⟨S13', k13⟩ := S12.out.stay hbB
  have B4 := A4.out.1.go A4.out.2 k13
  have B7 := Lib.hid (A7.out.1.go A7.out.2 k13)
  have n2 := hps_two (blk_new w12 (.cells #[.int .i64 11, .int .i64 7, .string sA, .int .i64 11, .int .i64 7, .string sB] 65))
  have S13 := Lib.hid S13'
  clear k13 S13' S12 A4 A7 A1
  refine (rsameH_any v4 _ _ _ _ B4.1 n2 (by decide)).mono ?_
  rintro e w13 ⟨rfl, hb13⟩
  rw [show decide ([(⟨11, 7, sA⟩ : Hp), ⟨11, 7, sB⟩] = [⟨11, 7, sA⟩, ⟨11, 7, sB⟩]) = true by decide]
  obtain ⟨S14', k14⟩ := S13.out.stay hb13
  have A7 := Lib.hid (B7.out.1.go B7.out.2 k14)
  have S14 := Lib.hid S14'
  have hb1213 := hbB.trans (hb13.mono hbB.size)
  have p1 := Lib.hid (blk_below q1.out hb1213 (blk_lt q1.out))
  have p2 := Lib.hid (blk_below q2.out hb1213 (blk_lt q2.out))
  have p3 := Lib.hid (blk_below q3.out hb1213 (blk_lt q3.out))
  clear S14' k14 S13 B4 B7 n2 hb13 hbB hb1213 q1 q2 q3
  have c0 : w13.cell? ⟨w10.heap.size + 1 + 1, 0, none⟩ = some (.int .i64 1) := (blk_cell (k := 0) p3.out rfl).1
  have c1 : w13.cell? ⟨w10.heap.size + 1 + 1, 1, none⟩ = some (.int .i64 10) := (blk_cell (k := 1) p3.out rfl).1
  have c2 : w13.cell? ⟨w10.heap.size + 1 + 1, 2, none⟩ = some (.int .i64 1) := (blk_cell (k := 2) p3.out rfl).1
  have c3 : w13.cell? ⟨w10.heap.size + 1 + 1, 3, none⟩ = some (.int .i64 10) := (blk_cell (k := 3) p3.out rfl).1
  have c4 : w13.cell? ⟨w10.heap.size + 1 + 1, 4, none⟩ = some (.int .i64 0) := (blk_cell (k := 4) p3.out rfl).1
  go_wp2_with fail
  clear c0 c1 c2 c3 c4
  have hbC : Below w13.heap.size w13 (w13.alloc (ao 1 10 1 10 0)) := (Below.refl _ w13).alloc (Nat.le_refl _) _
  obtain ⟨S15', k15⟩ := S14.out.stay hbC
  have B7 := A7.out.1.go A7.out.2 k15
  have n3 := arps_one (blk_new w13 (ao 1 10 1 10 0))
  have S15 := Lib.hid S15'
  clear k15 S15' S14 A7
  refine (rsameA_any v7 _ _ _ _ B7.1 n3 (by decide)).mono ?_
  rintro e w14 ⟨rfl, hb14⟩
  rw [show decide ([(⟨1, 10, 1, 10, 0⟩ : Ms)] = [⟨1, 10, 1, 10, 0⟩]) = true by decide]
  obtain ⟨S16', k16⟩ := S15.out.stay hb14
  have hBw := S16'.below
  have hb1314 := hbC.trans (hb14.mono hbC.size)
  have u1 := blk_below p1.out hb1314 (blk_lt p1.out)
  have u2 := blk_below p2.out hb1314 (blk_lt p2.out)
  have c0 : w14.cell? ⟨w10.heap.size, 0, none⟩ = some (.int .i64 1) := (blk_cell (k := 0) u1 rfl).1
  have c1 : w14.cell? ⟨w10.heap.size, 1, none⟩ = some (.int .i64 10) := (blk_cell (k := 1) u1 rfl).1
  have c2 : w14.cell? ⟨w10.heap.size, 2, none⟩ = some (.int .i64 1) := (blk_cell (k := 2) u1 rfl).1
  have c3 : w14.cell? ⟨w10.heap.size, 3, none⟩ = some (.int .i64 11) := (blk_cell (k := 3) u1 rfl).1
  have c4 : w14.cell? ⟨w10.heap.size, 4, none⟩ = some (.int .i64 0) := (blk_cell (k := 4) u1 rfl).1
  have d0 : w14.cell? ⟨w10.heap.size + 1, 0, none⟩ = some (.int .i64 1) := (blk_cell (k := 0) u2 rfl).1
  have d1 : w14.cell? ⟨w10.heap.size + 1, 1, none⟩ = some (.int .i64 10) := (blk_cell (k := 1) u2 rfl).1
  have d2 : w14.cell? ⟨w10.heap.size + 1, 2, none⟩ = some (.int .i64 1) := (blk_cell (k := 2) u2 rfl).1
  have d3 : w14.cell? ⟨w10.heap.size + 1, 3, none⟩ = some (.int .i64 11) := (blk_cell (k := 3) u2 rfl).1
  have d4 : w14.cell? ⟨w10.heap.size + 1, 4, none⟩ = some (.int .i64 0) := (blk_cell (k := 4) u2 rfl).1
  have hzE := HZ.out
  clear S16' k16 S15 B7 n3 hb14 hbC hb1314 p1 p2 p3 u1 u2 HZ HD
  go_wp2
  go_ret
  exact ⟨rfl, hBw⟩
end Go.Proofs.Ytpkfjlbjahghgaa

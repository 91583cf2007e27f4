/- The walk of ARPIgnoresUnsolicited. -/
import Derived.Test.YtpkfjlbjahghgaaAtSane
import Derived.Test.YtpkfjlbjahghgaaAtRall
import Derived.Test.YtpkfjlbjahghgaaAtSize
import Derived.Test.YtpkfjlbjahghgaaAwMsg
import Derived.Test.YtpkfjlbjahghgaaAwDef
namespace Go.Proofs.Ytpkfjlbjahghgaa
open Go.RowKit Go.Maps
set_option linter.unusedVariables false
attribute [local go_sem] Oper.semAt_some

def clCells (c : Cl) : List Value := [.int .u8 c.k, .int .i64 c.a, .int .i64 c.m, .int .i64 c.t, .int .i64 c.o, .string c.s, .int .i64 c.ti, .int .i64 c.x1, .int .i64 c.x2, .int .i64 c.x3, .int .i64 c.x4, .int .i64 c.x5]
/-- a slice of calls, as the walk reads it -/
def ClsIn (W : World) (lv : Value) (cs : List Cl) : Prop := (lv = .slice none 0 0 ∧ cs = []) ∨ ∃ (a : Addr) (cap : Nat), lv = .slice (some a) cs.length cap ∧ ∀ (i : Nat) (h : i < cs.length) (j : Nat) (hj : j < 12), W.cell? ((a.add (i * 12)).add j) = (clCells cs[i])[j]?

/-- the state while the messages come -/
def IgnI (W0 wr : World) (T mb : Nat) (n : Nat) (x : En) (i : Value) : Prop :=
  ∃ (k : Nat) (said : Bool) (when : Int) (R : List PE), k ≤ 40 ∧ k ≤ n ∧ i = .int .i64 k ∧ St W0 wr T mb 10 5 said when R [x] ∧ 0 ≤ when ∧ when ≤ 100

theorem ign_model (said : Bool) (when : Int) (x : En) (hk : x.known = true) (now o f m t n : Int) :
    (recvM 10 5 said when [x] now o f m t n).L = [x] ∧ (recvM 10 5 said when [x] now o f m t n).hps = [] ∧ (recvM 10 5 said when [x] now o f m t n).arps.length ≤ 1 ∧
      ((recvM 10 5 said when [x] now o f m t n).when = when ∨ (recvM 10 5 said when [x] now o f m t n).when = now) := by
  have hl : (lookE [x] f).filter (fun y => !y.known) = none := by
    unfold lookE
    simp only [List.find?_cons, List.find?_nil]
    split <;> simp [Option.filter, hk]
  unfold recvM
  rw [hl]
  split
  · exact ⟨rfl, rfl, by simp, .inl rfl⟩
  · split
    · split
      · exact ⟨rfl, rfl, by simp, .inl rfl⟩
      · exact ⟨rfl, rfl, by simp, .inr rfl⟩
    · split
      · exact ⟨rfl, rfl, by simp, .inl rfl⟩
      · refine ⟨rfl, rfl, ?_, .inl rfl⟩
        simp only
        split <;> simp

abbrev sX : ByteArray := ⟨#[120]⟩
set_option maxRecDepth 100000 in
set_option maxHeartbeats 8000000 in
theorem walk_ARPIgnoresUnsolicited (tz mz : Int) (lv : Value) (cs : List Cl) (W : World) (t1 : -9223372036854775808 ≤ tz) (t2 : tz ≤ 9223372036854775807) (m1 : -9223372036854775808 ≤ mz) (m2 : mz ≤ 9223372036854775807)
    (hl : ClsIn W lv cs) (hok : ∀ c ∈ cs, c.ok) (hn : cs.length ≤ maxLen) :
    Calls Try.prog 8 #[.int .i64 tz, .int .i64 mz, lv] W fun e W' => e = .returned (.bool true) ∧ Below W.heap.size W W' := by
  unfold maxLen at hn
  obtain ⟨n, hnn⟩ : ∃ n, cs.length = n := ⟨_, rfl⟩
  obtain ⟨p, cap, hlv⟩ : ∃ p cap, lv = .slice p n cap := by
    rcases hl with ⟨h1, h2⟩ | ⟨a, cap, h1, _⟩
    · exact ⟨none, 0, by rw [h1, ← hnn, h2]; rfl⟩
    · exact ⟨some a, cap, by rw [h1, hnn]⟩
  have hcell : ∀ (i : Nat) (h : i < cs.length), ∃ a, p = some a ∧ ∀ j, j < 12 → W.cell? ((a.add (i * 12)).add j) = (clCells cs[i])[j]? := by
    intro i h
    rcases hl with ⟨h1, h2⟩ | ⟨a, cap', h1, h3⟩
    · rw [h2] at h; simp at h
    · rw [h1] at hlv
      simp only [Value.slice.injEq] at hlv
      exact ⟨a, hlv.1.symm, h3 i h⟩
  rw [hlv]
  rw [hnn] at hn
  have HC := Lib.hid hcell
  have HZ := Lib.hid hok
  have HN := Lib.hid hnn
  clear hl hcell hok hlv hnn
  obtain ⟨p1, p2⟩ := pickZ_bd tz 23 (by decide)
  obtain ⟨q1, q2⟩ := pickZ_bd mz 9 (by decide)
  obtain ⟨tb1, tb2⟩ := tdivB tz 23 t1 t2 (by decide)
  obtain ⟨r1, r2⟩ := pickZ_bd (tz.tdiv 23) 23 (by decide)
  go_enter Try.func8, Try.ntmps8
  go_wp2_with fail
  refine (sanity_any _).mono ?_
  rintro e w1 ⟨rfl, hb1⟩
  go_wp2_with fail
  refine (new_ok 10 5 _ (by decide) (by decide)).mono ?_
  rintro e w2 ⟨rfl, hb2, ht2⟩
  have S2 := Lib.hid (St.init hb2 ht2)
  have HB1 := Lib.hid hb1
  clear hb2 ht2 hb1
  obtain ⟨T, hTT⟩ : ∃ T, w1.heap.size + 1 = T := ⟨_, rfl⟩
  obtain ⟨mb, hMB⟩ : ∃ m, w1.heap.size = m := ⟨_, rfl⟩
  rw [hTT]
  rw [hTT, show St w1 w2 T w1.heap.size 10 5 false 0 [] [] = St w1 w2 T mb 10 5 false 0 [] [] by rw [hMB]] at S2
  clear hTT hMB
  go_wp2_with fail
  refine (pick_any tz 23 _ t1 t2 (by decide) (by decide)).mono ?_
  rintro e w3 ⟨rfl, rfl⟩
  obtain ⟨A, hA⟩ : ∃ A, 11 + pickZ tz 23 = A := ⟨_, rfl⟩
  have hA1 : 11 ≤ A ∧ A ≤ 33 := by omega
  obtain ⟨pp, hpp⟩ : ∃ P, pickZ tz 23 = P := ⟨_, rfl⟩
  rw [hpp] at p1 p2 hA
  rw [hpp]
  go_wp2_with fail
  refine (pick_any mz 9 _ m1 m2 (by decide) (by decide)).mono ?_
  rintro e w3 ⟨rfl, rfl⟩
  obtain ⟨qq, hqq⟩ : ∃ P, pickZ mz 9 = P := ⟨_, rfl⟩
  rw [hqq] at q1 q2
  rw [hqq]
  obtain ⟨M, hM⟩ : ∃ M, 1 + qq = M := ⟨_, rfl⟩
  have hM1 : 1 ≤ M ∧ M ≤ 9 := by omega
  clear hpp hqq
  go_wp2_with fail
  refine (send_new S2.out.tab 0 A sX (by unfold okS okOne; simp only [ByteArray.size]; simp; omega) rfl (by decide)).mono ?_
  rintro e w4 ⟨v1, rfl, ha1, ht4⟩
  obtain ⟨R4, S4', -, -⟩ := S2.out.step ht4
  have S4 : Hid (St w1 w4 T mb 10 5 false 0 R4 [newE A 0 sX]) := Lib.hid S4'
  clear S4' ht4 ha1 S2
  obtain ⟨p4, rfl, hp4⟩ := ents_one S4.out.ents
  have HP4 := Lib.hid hp4
  clear hp4
  go_wp2_with fail
  refine (recv_told_yes S4.out.tab 1 A M 5 (by unfold okA okOne okMac; omega) (by omega) (p := p4) (by simp [lookP, HP4.out, newE]) (by rw [HP4.out]; rfl) (by rw [HP4.out]; simp [newE]) (by simp)).mono ?_
  rintro e w5 ⟨v5, rfl, ha5, ht5⟩
  have eL : setE ([p4].map (·.x)) (resE A 1 M) = [resE A 1 M] := by simp [setE, dropE, insE, HP4.out, resE, newE]
  have eO : outL A M p4.x.held = [⟨A, M, sX⟩] := by simp [outL, HP4.out, newE]
  rw [eL] at ht5
  rw [eO] at ha5
  obtain ⟨R5, S5', -, -⟩ := S4.out.step ht5
  have S5 := Lib.hid S5'
  obtain ⟨vp, vc, rfl⟩ := ha5.slice
  clear S5' ht5 S4 eL eO HP4 ha5
  simp only [List.length_cons, List.length_nil, Nat.zero_add]
  go_wp2_with fail
  go_loopw [14] (fun i wr => IgnI w1 wr T mb n (resE A 1 M) i) (fun i _ => n - (intOf i).toNat)
  case atStart => exact ⟨0, false, 0, R5, by omega, by omega, rfl, S5.out, by omega, by omega⟩
  case round =>
    obtain ⟨k, said, when, R, hk40, hkn, rfl, hS, hw1, hw2⟩ := hrel
    have S6 := Lib.hid hS
    clear hS S5
    by_cases h : k < n ∧ k < 40
    · obtain ⟨h1, h2⟩ := h
      obtain ⟨a, rfl, hc⟩ := HC.out k (by rw [HN.out]; exact h1)
      obtain ⟨c, hcc⟩ : ∃ c, cs[k]'(by rw [HN.out]; exact h1) = c := ⟨_, rfl⟩
      have hcok := HZ.out c (by rw [← hcc]; exact List.getElem_mem _)
      rw [hcc] at hc
      have HM := fun w => message_any c hcok w
      have hcr : ∀ j, j < 12 → wr.cell? ((a.add (k * 12)).add j) = (clCells c)[j]? := by
        intro j hj
        have h3 := hc j hj
        have h4 : (clCells c)[j]? = some ((clCells c)[j]'(by simpa [clCells] using hj)) := List.getElem?_eq_getElem _
        rw [h4] at h3 ⊢
        have hB := HB1.out.trans (S6.out.below.mono HB1.out.size)
        rw [hB.cell (p := (a.add (k * 12)).add j) (cell_lt h3)]
        exact h3
      clear hc hcc hcok
      obtain ⟨ck, ca, cm, ct, co, cs2, ci, y1, y2, y3, y4, y5⟩ := c
      have g0 : wr.cell? (a.add (k * 12)) = some (.int .u8 ck) := hcr 0 (by decide)
      have g1 : wr.cell? ⟨(a.add (k * 12)).block, (a.add (k * 12)).off + 1, none⟩ = some (.int .i64 ca) := hcr 1 (by decide)
      have g2 : wr.cell? ⟨(a.add (k * 12)).block, (a.add (k * 12)).off + 2, none⟩ = some (.int .i64 cm) := hcr 2 (by decide)
      have g3 : wr.cell? ⟨(a.add (k * 12)).block, (a.add (k * 12)).off + 3, none⟩ = some (.int .i64 ct) := hcr 3 (by decide)
      have g4 : wr.cell? ⟨(a.add (k * 12)).block, (a.add (k * 12)).off + 4, none⟩ = some (.int .i64 co) := hcr 4 (by decide)
      have g5 : wr.cell? ⟨(a.add (k * 12)).block, (a.add (k * 12)).off + 5, none⟩ = some (.string cs2) := hcr 5 (by decide)
      have g6 : wr.cell? ⟨(a.add (k * 12)).block, (a.add (k * 12)).off + 6, none⟩ = some (.int .i64 ci) := hcr 6 (by decide)
      have g7 : wr.cell? ⟨(a.add (k * 12)).block, (a.add (k * 12)).off + 7, none⟩ = some (.int .i64 y1) := hcr 7 (by decide)
      have g8 : wr.cell? ⟨(a.add (k * 12)).block, (a.add (k * 12)).off + 8, none⟩ = some (.int .i64 y2) := hcr 8 (by decide)
      have g9 : wr.cell? ⟨(a.add (k * 12)).block, (a.add (k * 12)).off + 9, none⟩ = some (.int .i64 y3) := hcr 9 (by decide)
      have g10 : wr.cell? ⟨(a.add (k * 12)).block, (a.add (k * 12)).off + 10, none⟩ = some (.int .i64 y4) := hcr 10 (by decide)
      have g11 : wr.cell? ⟨(a.add (k * 12)).block, (a.add (k * 12)).off + 11, none⟩ = some (.int .i64 y5) := hcr 11 (by decide)
      clear hcr
      have HMv : ∃ mo mf mm mt mn, ∀ w, Calls Try.prog 13 #[clv ⟨ck, ca, cm, ct, co, cs2, ci, y1, y2, y3, y4, y5⟩] w fun e w' => e = .returned (av mo mf mm mt mn) ∧ Below w.heap.size w w' := ⟨_, _, _, _, _, HM⟩
      obtain ⟨mo, mf, mm, mt, mn, HMv⟩ := HMv
      clear HM
      go_wp2_with fail
      refine (HMv wr).mono ?_
      rintro e w7 ⟨rfl, hb7⟩
      have hBx : Below wr.heap.size wr (w7.alloc (ao mo mf mm mt mn)) := hb7.alloc hb7.size _
      have e0 : (w7.alloc (ao mo mf mm mt mn)).cell? (a.add (k * 12)) = some (.int .u8 ck) := (hBx.cell (cell_lt g0)).trans g0
      have e7 : (w7.alloc (ao mo mf mm mt mn)).cell? ⟨(a.add (k * 12)).block, (a.add (k * 12)).off + 7, none⟩ = some (.int .i64 y1) := (hBx.cell (cell_lt g7)).trans g7
      have e8 : (w7.alloc (ao mo mf mm mt mn)).cell? ⟨(a.add (k * 12)).block, (a.add (k * 12)).off + 8, none⟩ = some (.int .i64 y2) := (hBx.cell (cell_lt g8)).trans g8
      have e9 : (w7.alloc (ao mo mf mm mt mn)).cell? ⟨(a.add (k * 12)).block, (a.add (k * 12)).off + 9, none⟩ = some (.int .i64 y3) := (hBx.cell (cell_lt g9)).trans g9
      have e10 : (w7.alloc (ao mo mf mm mt mn)).cell? ⟨(a.add (k * 12)).block, (a.add (k * 12)).off + 10, none⟩ = some (.int .i64 y4) := (hBx.cell (cell_lt g10)).trans g10
      have e11 : (w7.alloc (ao mo mf mm mt mn)).cell? ⟨(a.add (k * 12)).block, (a.add (k * 12)).off + 11, none⟩ = some (.int .i64 y5) := (hBx.cell (cell_lt g11)).trans g11
      have HB7 := Lib.hid hb7
      clear hBx HMv hb7 g0 g1 g2 g3 g4 g5 g6 g7 g8 g9 g10 g11 HC
      go_wp2_with fail
      all_goals
        refine (recv_all (S6.out.stay (HB7.out.alloc HB7.out.size _)).1.tab (2 + (k : Int)) _ _ _ _ _ (by omega) (by omega) (by omega) (by omega) (by have := congrArg List.length S6.out.ents; simp at this; omega) (by
          obtain ⟨p6, h6, hp6⟩ := ents_one S6.out.ents
          intro p hp
          rw [h6] at hp
          obtain rfl : p = p6 := by simpa using hp
          rw [hp6]; simp [resE])).mono ?_
        rintro e w8 ⟨u, v, rfl, hu, hv, ht⟩
        have hents := S6.out.ents
        rw [hents] at hu hv ht
        obtain ⟨im1, im2, im3, im4⟩ := ign_model said when (resE A 1 M) rfl (2 + (k : Int)) _ _ _ _ _
        rw [im1] at ht
        rw [im2] at hv
        obtain ⟨vp', vc', rfl⟩ := hv.slice
        obtain ⟨up', uc', rfl⟩ := hu.slice
        obtain ⟨R8, S8', -, -⟩ := (S6.out.stay (HB7.out.alloc HB7.out.size _)).1.step ht
        have S8 := Lib.hid S8'
        revert im3 im4 S8
        generalize (recvM 10 5 said when [resE A 1 M] (2 + (k : Int)) _ _ _ _ _).arps.length = q
        generalize (recvM 10 5 said when [resE A 1 M] (2 + (k : Int)) _ _ _ _ _).when = wn
        generalize (recvM 10 5 said when [resE A 1 M] (2 + (k : Int)) _ _ _ _ _).said = sd
        intro im3 im4 S8
        clear S8' ht hu hv hents im1 im2 S6 HB7 e0 e7 e8 e9 e10 e11
        have hq1 : decide ((1 : Int) < (q : Int)) = false := by simp; omega
        simp only [List.length_nil]
        go_wp2
        go_roundw
        case rel => exact ⟨k + 1, sd, wn, R8, by omega, by omega, by go_num, S8.out, by omega, by omega⟩
        case measure => simp [intOf]; omega
    · have S4 := S6.out.below
      have hB := HB1.out.trans (S4.mono HB1.out.size)
      obtain ⟨p6, rfl, hp6⟩ := ents_one S6.out.ents
      have HP6 := Lib.hid hp6
      have hkn := known_tab S6.out.tab (a := A) (by omega) (by omega)
      rw [show knL ([p6].map (·.x)) A = (M, true) by simp [knL, lookE, HP6.out, resE]] at hkn
      have hsz := sizes_tab S6.out.tab (by simp) (by intro p hp; obtain rfl : p = p6 := by simpa using hp
                                                     rw [HP6.out]; simp [resE])
      rw [show sumL ([p6].map (·.x)) = 0 by simp [sumL, pl, HP6.out, resE]] at hsz
      have hpk := fun w => pick_any (tz.tdiv 23) 23 w tb1 tb2 (by decide) (by decide)
      obtain ⟨Bq, hBq⟩ : ∃ B, pickZ (tz.tdiv 23) 23 = B := ⟨_, rfl⟩
      rw [hBq] at r1 r2 hpk
      have HK := Lib.hid hkn
      have HS := Lib.hid hsz
      have HPk := Lib.hid hpk
      clear HC hkn hsz hpk S4 hp6 hBq
      have hend : ∀ wx : World, Calls Try.prog 18 #[.int .i64 (tz.tdiv 23), .int .i64 23] wx fun e w' => e = .returned (.int .i64 Bq) ∧ wx = w' := HPk.out
      by_cases h1 : k < n
      · obtain rfl : k = 40 := by omega
        go_wp2_with fail
        refine HK.out.mono ?_
        rintro e w9 ⟨rfl, rfl⟩
        go_wp2_with fail
        refine HS.out.mono ?_
        rintro e w10 ⟨rfl, hb10⟩
        have S10 := Lib.hid (S6.out.stay hb10).1
        have hB10 := hB.trans (hb10.mono hB.size)
        clear hb10 HK HS hB S6
        go_wp2_with fail
        refine (hend _).mono ?_
        rintro e w11 ⟨rfl, rfl⟩
        obtain ⟨Bx, hBx⟩ : ∃ Bx, 11 + Bq = Bx := ⟨_, rfl⟩
        have hBx2 : 11 ≤ Bx ∧ Bx ≤ 33 := by omega
        have hkb := known_tab S10.out.tab (a := Bx) (by omega) (by omega)
        by_cases hab : A = Bx
        · have hab2 : (A == Bx) = true := by simpa using hab
          rw [show knL ([p6].map (·.x)) Bx = (M, true) by simp [knL, lookE, HP6.out, resE, hab]] at hkb
          have HKB := Lib.hid hkb
          clear hkb hab S10 hend HPk
          go_wp2_with fail
          refine HKB.out.mono ?_
          rintro e w12 ⟨rfl, rfl⟩
          clear HKB
          go_wp2
          go_ret
          exact ⟨rfl, hB10⟩
        · have hab2 : (A == Bx) = false := by simpa using hab
          rw [show knL ([p6].map (·.x)) Bx = (0, false) by simp [knL, lookE, HP6.out, resE, hab]] at hkb
          have HKB := Lib.hid hkb
          clear hkb hab S10 hend HPk
          go_wp2_with fail
          refine HKB.out.mono ?_
          rintro e w12 ⟨rfl, rfl⟩
          clear HKB
          go_wp2
          go_ret
          exact ⟨rfl, hB10⟩
      · obtain rfl : k = n := by omega
        go_wp2_with fail
        refine HK.out.mono ?_
        rintro e w9 ⟨rfl, rfl⟩
        go_wp2_with fail
        refine HS.out.mono ?_
        rintro e w10 ⟨rfl, hb10⟩
        have S10 := Lib.hid (S6.out.stay hb10).1
        have hB10 := hB.trans (hb10.mono hB.size)
        clear hb10 HK HS hB S6
        go_wp2_with fail
        refine (hend _).mono ?_
        rintro e w11 ⟨rfl, rfl⟩
        obtain ⟨Bx, hBx⟩ : ∃ Bx, 11 + Bq = Bx := ⟨_, rfl⟩
        have hBx2 : 11 ≤ Bx ∧ Bx ≤ 33 := by omega
        have hkb := known_tab S10.out.tab (a := Bx) (by omega) (by omega)
        by_cases hab : A = Bx
        · have hab2 : (A == Bx) = true := by simpa using hab
          rw [show knL ([p6].map (·.x)) Bx = (M, true) by simp [knL, lookE, HP6.out, resE, hab]] at hkb
          have HKB := Lib.hid hkb
          clear hkb hab S10 hend HPk
          go_wp2_with fail
          refine HKB.out.mono ?_
          rintro e w12 ⟨rfl, rfl⟩
          clear HKB
          go_wp2
          go_ret
          exact ⟨rfl, hB10⟩
        · have hab2 : (A == Bx) = false := by simpa using hab
          rw [show knL ([p6].map (·.x)) Bx = (0, false) by simp [knL, lookE, HP6.out, resE, hab]] at hkb
          have HKB := Lib.hid hkb
          clear hkb hab S10 hend HPk
          go_wp2_with fail
          refine HKB.out.mono ?_
          rintro e w12 ⟨rfl, rfl⟩
          clear HKB
          go_wp2
          go_ret
          exact ⟨rfl, hB10⟩
end Go.Proofs.Ytpkfjlbjahghgaa

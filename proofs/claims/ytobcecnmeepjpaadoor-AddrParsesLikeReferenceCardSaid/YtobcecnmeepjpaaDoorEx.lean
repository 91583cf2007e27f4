/- The law's fixed examples: they hold. -/
import Derived.Test.YtobcecnmeepjpaaDoorExA
namespace Go.Proofs.YtobcecnmeepjpaaDoor
open Go.RowKit
set_option linter.unusedVariables false

theorem x1 (w : World) (E : Env w) : Calls Tryd.prog 20 #[.int .i64 167772161] w fun e w' => e = .returned (.tuple #[.string ⟨#[49, 48, 46, 48, 46, 48, 46, 49]⟩, .int .i64 0]) ∧ Below w.heap.size w w' := by
  have h := format_any 167772161 w (by decide) (by decide) E
  rw [v1, show fE 167772161 = 0 by decide] at h
  exact h
theorem x2 (w : World) (E : Env w) : Calls Tryd.prog 16 #[.string ⟨#[49, 48, 46, 48, 46, 48, 46, 49]⟩] w fun e w' => e = .returned (.tuple #[.int .i64 167772161, .int .i64 0]) ∧ Below w.heap.size w w' :=
  parse_some w (by decide) E v2
theorem x3 (w : World) (E : Env w) : Calls Tryd.prog 18 #[.string ⟨#[49, 48, 46, 48, 46, 48, 46, 48, 47, 56]⟩] w fun e w' => e = .returned (.tuple #[.agg #[.int .i64 167772160, .int .i64 8], .int .i64 0]) ∧ Below w.heap.size w w' := by
  have h := pp_any ⟨#[49, 48, 46, 48, 46, 48, 46, 48, 47, 56]⟩ w (by decide) E
  unfold ppA ppB ppE at h
  rw [v3] at h
  exact h
theorem x4 (w : World) (E : Env w) : Calls Tryd.prog 21 #[.agg #[.int .i64 167772160, .int .i64 8]] w fun e w' => e = .returned (.tuple #[.string ⟨#[49, 48, 46, 48, 46, 48, 46, 48, 47, 56]⟩, .int .i64 0]) ∧ Below w.heap.size w w' := by
  have h := fpre_any 167772160 8 w (by decide) (by decide) (by decide) (by decide) E
  rw [v4, show fpE 167772160 8 = 0 by unfold fpE; rw [v12]; rfl] at h
  exact h
theorem x5 (w : World) (E : Env w) : Calls Tryd.prog 18 #[.string ⟨#[49, 48, 46, 48, 46, 48, 46, 49, 47, 56]⟩] w fun e w' => e = .returned (.tuple #[.agg #[.int .i64 0, .int .i64 0], .int .i64 30]) ∧ Below w.heap.size w w' := by
  have h := pp_any ⟨#[49, 48, 46, 48, 46, 48, 46, 49, 47, 56]⟩ w (by decide) E
  unfold ppA ppB ppE at h
  rw [v5] at h
  exact h
theorem x6 (w : World) (E : Env w) : Calls Tryd.prog 16 #[.string ⟨#[49, 46, 50, 46, 51]⟩] w fun e w' => e = .returned (.tuple #[.int .i64 0, .int .i64 30]) ∧ Below w.heap.size w w' :=
  parse_none w (by decide) E v6
theorem x7 (w : World) (E : Env w) : Calls Tryd.prog 16 #[.string ⟨#[48, 49, 46, 50, 46, 51, 46, 52]⟩] w fun e w' => e = .returned (.tuple #[.int .i64 0, .int .i64 30]) ∧ Below w.heap.size w w' :=
  parse_none w (by decide) E v7
theorem x8 (w : World) (E : Env w) : Calls Tryd.prog 16 #[.string ⟨#[49, 46, 50, 46, 51, 46, 50, 53, 54]⟩] w fun e w' => e = .returned (.tuple #[.int .i64 0, .int .i64 30]) ∧ Below w.heap.size w w' :=
  parse_none w (by decide) E v8
theorem x9 (w : World) (E : Env w) : Calls Tryd.prog 20 #[.int .i64 (-1)] w fun e w' => e = .returned (.tuple #[.string ⟨#[]⟩, .int .i64 30]) ∧ Below w.heap.size w w' :=
  fmt_no (-1) w (by decide) (by decide) (by decide)

theorem keepN {w W w' : World} {N : Nat} {a b : Value} (h : Below w.heap.size w W ∧ W.cell? ⟨N, 0, none⟩ = some a ∧ W.cell? ⟨N, 1, none⟩ = some b) (hb : Below W.heap.size W w') :
    Below w.heap.size w w' ∧ w'.cell? ⟨N, 0, none⟩ = some a ∧ w'.cell? ⟨N, 1, none⟩ = some b := by
  have hl : N < W.heap.size := World.block_lt_of_cell? _ _ h.2.1
  exact ⟨h.1.trans (hb.mono h.1.size), (hb.cell hl).trans h.2.1, (hb.cell hl).trans h.2.2⟩
theorem keepNa {w W : World} {N : Nat} {a b : Value} (h : Below w.heap.size w W ∧ W.cell? ⟨N, 0, none⟩ = some a ∧ W.cell? ⟨N, 1, none⟩ = some b) (o : Obj) :
    Below w.heap.size w (W.alloc o) ∧ (W.alloc o).cell? ⟨N, 0, none⟩ = some a ∧ (W.alloc o).cell? ⟨N, 1, none⟩ = some b :=
  ⟨h.1.alloc h.1.size _, by rw [World.cell?_alloc_some _ _ _ (by rw [h.2.1]; rfl)]; exact h.2.1, by rw [World.cell?_alloc_some _ _ _ (by rw [h.2.2]; rfl)]; exact h.2.2⟩
theorem keepN0 {w W : World} (hb : Below w.heap.size w W) (a b : Value) (t : TypeId) :
    Below w.heap.size w (W.alloc (.cells #[a, b] t)) ∧ (W.alloc (.cells #[a, b] t)).cell? ⟨W.heap.size, 0, none⟩ = some a ∧ (W.alloc (.cells #[a, b] t)).cell? ⟨W.heap.size, 1, none⟩ = some b :=
  ⟨hb.alloc hb.size _, by simp, by simp⟩
theorem keepNd {w W : World} {N : Nat} {a b : Value} (h : Below w.heap.size w W ∧ W.cell? ⟨N, 0, none⟩ = some a ∧ W.cell? ⟨N, 1, none⟩ = some b) :
    Below w.heap.size w W.drew ∧ W.drew.cell? ⟨N, 0, none⟩ = some a ∧ W.drew.cell? ⟨N, 1, none⟩ = some b := ⟨h.1.drew, h.2.1, h.2.2⟩

set_option maxRecDepth 20000 in
set_option maxHeartbeats 8000000 in
theorem ex_any (w : World) (E : Env w) :
    Calls Tryd.prog 10 #[] w fun e w' => e = .returned (.bool true) ∧ Below w.heap.size w w' := by
  have HE := Lib.hid E
  have C1 : ∀ w, Hid (Calls Tryd.prog 24 #[.agg #[.int .i64 167772160, .int .i64 8], .int .i64 167772161] w fun e w' => e = .returned (.bool true) ∧ Below w.heap.size w w') := fun w => Lib.hid (by
    have h := cont_any 167772160 8 167772161 w (by decide) (by decide) (by decide) (by decide) (by decide) (by decide)
    rw [v9] at h; exact h)
  have C2 : ∀ w, Hid (Calls Tryd.prog 24 #[.agg #[.int .i64 167772160, .int .i64 8], .int .i64 184549376] w fun e w' => e = .returned (.bool false) ∧ Below w.heap.size w w') := fun w => Lib.hid (by
    have h := cont_any 167772160 8 184549376 w (by decide) (by decide) (by decide) (by decide) (by decide) (by decide)
    rw [v10] at h; exact h)
  have C3 : ∀ w, Hid (Calls Tryd.prog 22 #[.agg #[.int .i64 167772160, .int .i64 8]] w fun e w' => e = .returned (.int .i64 184549375) ∧ Below w.heap.size w w') := fun w => Lib.hid (by
    have h := last_any 167772160 8 w (by decide) (by decide) (by decide) (by decide)
    rw [v11] at h; exact h)
  have C4 : ∀ w, Hid (Calls Tryd.prog 27 #[.int .i64 0] w fun e w' => e = .returned (.bool true) ∧ w = w') := fun w => Lib.hid (by
    have h := valid_any 0 w (by decide) (by decide)
    rw [show validZ 0 = true by decide] at h; exact h)
  have C5 : ∀ w, Hid (Calls Tryd.prog 27 #[.int .i64 4294967295] w fun e w' => e = .returned (.bool true) ∧ w = w') := fun w => Lib.hid (by
    have h := valid_any 4294967295 w (by decide) (by decide)
    rw [show validZ 4294967295 = true by decide] at h; exact h)
  have C6 : ∀ w, Hid (Calls Tryd.prog 27 #[.int .i64 4294967296] w fun e w' => e = .returned (.bool false) ∧ w = w') := fun w => Lib.hid (by
    have h := valid_any 4294967296 w (by decide) (by decide)
    rw [show validZ 4294967296 = false by decide] at h; exact h)
  have C7 : ∀ w, Hid (Calls Tryd.prog 23 #[.agg #[.int .i64 167772160, .int .i64 8]] w fun e w' => e = .returned (.bool true) ∧ Below w.heap.size w w') := fun w => Lib.hid (by
    have h := vprefix_any 167772160 8 w (by decide) (by decide) (by decide) (by decide)
    rw [v12] at h; exact h)
  have C8 : ∀ w, Hid (Calls Tryd.prog 23 #[.agg #[.int .i64 1, .int .i64 0]] w fun e w' => e = .returned (.bool false) ∧ Below w.heap.size w w') := fun w => Lib.hid (by
    have h := vprefix_any 1 0 w (by decide) (by decide) (by decide) (by decide)
    rw [v13] at h; exact h)
  have D1 := Lib.hid C1
  have D2 := Lib.hid C2
  have D3 := Lib.hid C3
  have D4 := Lib.hid C4
  have D5 := Lib.hid C5
  have D6 := Lib.hid C6
  have D7 := Lib.hid C7
  have D8 := Lib.hid C8
  clear C1 C2 C3 C4 C5 C6 C7 C8
  have X1 := Lib.hid x1
  have X2 := Lib.hid x2
  have X3 := Lib.hid x3
  have X4 := Lib.hid x4
  have X5 := Lib.hid x5
  have X6 := Lib.hid x6
  have X7 := Lib.hid x7
  have X8 := Lib.hid x8
  have X9 := Lib.hid x9
  clear E
  go_enter Tryd.func10, Tryd.ntmps10
  go_wp2_with fail
  refine (X1.out _ HE.out).mono ?_
  rintro e w1 ⟨rfl, hb1⟩
  go_wp2_with fail
  refine (X2.out _ (HE.out.stay hb1)).mono ?_
  rintro e w2 ⟨rfl, hb2⟩
  replace hb2 := hb1.trans (hb2.mono hb1.size)
  clear hb1
  go_wp2_with fail
  refine (X3.out _ (HE.out.stay hb2)).mono ?_
  rintro e w3 ⟨rfl, hb3⟩
  replace hb3 := hb2.trans (hb3.mono hb2.size)
  have hk3 := keepN0 hb3 (.int .i64 167772160) (.int .i64 8) 23
  obtain ⟨N, hN⟩ : ∃ N, w3.heap.size = N := ⟨_, rfl⟩
  have hg3 : N < (w3.alloc (.cells #[.int .i64 167772160, .int .i64 8] 23)).heap.size := by rw [← hN]; simp
  have HN := Lib.hid hN
  rw [hN] at hk3
  clear hN
  clear hb2
  go_wp2_with fail
  rw [HN.out]
  refine (X4.out _ (HE.out.stay hk3.1)).mono ?_
  rintro e w4 ⟨rfl, hb4⟩
  have hk4 := keepN hk3 hb4
  clear hk3 hb4
  go_wp2_with fail
  refine (X5.out _ (HE.out.stay hk4.1)).mono ?_
  rintro e w5 ⟨rfl, hb5⟩
  have hk5 := keepNa (keepN hk4 hb5) (.cells #[.int .i64 0, .int .i64 0] 23)
  clear hk4 hb5
  go_wp2_with fail
  refine (X6.out _ (HE.out.stay hk5.1)).mono ?_
  rintro e w6 ⟨rfl, hb6⟩
  have hk6 := keepN hk5 hb6
  clear hk5 hb6
  go_wp2_with fail
  refine (X7.out _ (HE.out.stay hk6.1)).mono ?_
  rintro e w7 ⟨rfl, hb7⟩
  have hk7 := keepN hk6 hb7
  clear hk6 hb7
  go_wp2_with fail
  refine (X8.out _ (HE.out.stay hk7.1)).mono ?_
  rintro e w8 ⟨rfl, hb8⟩
  have hk8 := keepN hk7 hb8
  clear hk7 hb8
  go_wp2_with fail
  refine (X9.out _ (HE.out.stay hk8.1)).mono ?_
  rintro e w9 ⟨rfl, hb9⟩
  have hk9 := keepN hk8 hb9
  clear hk8 hb9
  obtain ⟨hq0, hq1, hq2⟩ := hk9
  go_wp2_with fail
  refine (D1.out _).out.mono ?_
  rintro e w10 ⟨rfl, hb10⟩
  obtain ⟨hq0, hq1, hq2⟩ := keepN ⟨hq0, hq1, hq2⟩ hb10
  clear hb10
  go_wp2_with fail
  refine (D2.out _).out.mono ?_
  rintro e w11 ⟨rfl, hb11⟩
  obtain ⟨hq0, hq1, hq2⟩ := keepN ⟨hq0, hq1, hq2⟩ hb11
  clear hb11
  go_wp2_with fail
  refine (D3.out _).out.mono ?_
  rintro e w12 ⟨rfl, hb12⟩
  obtain ⟨hq0, hq1, hq2⟩ := keepN ⟨hq0, hq1, hq2⟩ hb12
  clear hb12
  go_wp2_with fail
  refine (D4.out _).out.mono ?_
  rintro e v4 ⟨rfl, rfl⟩
  go_wp2_with fail
  refine (D5.out _).out.mono ?_
  rintro e v5 ⟨rfl, rfl⟩
  go_wp2_with fail
  refine (D6.out _).out.mono ?_
  rintro e v6 ⟨rfl, rfl⟩
  go_wp2_with fail
  refine (D7.out _).out.mono ?_
  rintro e w13 ⟨rfl, hb13⟩
  obtain ⟨hq0, hq1, hq2⟩ := keepN ⟨hq0, hq1, hq2⟩ hb13
  clear hb13
  go_wp2_with fail
  refine (D8.out _).out.mono ?_
  rintro e w14 ⟨rfl, hb14⟩
  obtain ⟨hq0, hq1, hq2⟩ := keepN ⟨hq0, hq1, hq2⟩ hb14
  clear hb14
  go_wp2_with fail
  go_ret
  exact ⟨rfl, hq0⟩
end Go.Proofs.YtobcecnmeepjpaaDoor

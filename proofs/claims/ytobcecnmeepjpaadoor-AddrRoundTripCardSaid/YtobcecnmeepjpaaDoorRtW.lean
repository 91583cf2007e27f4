/- The walk of AddrRoundTrip. -/
import Derived.Test.YtobcecnmeepjpaaDoorInv
namespace Go.Proofs.YtobcecnmeepjpaaDoor
open Go.RowKit
set_option linter.unusedVariables false

theorem kc2 {W w' : World} {a : Addr} {v : Value} (hb : Below W.heap.size W w') (h : W.cell? a = some v) : w'.cell? a = some v := (hb.cell (World.block_lt_of_cell? _ _ h)).trans h
theorem dec3 (A B C D : Int) : (A = C ∧ B = D) ∨ (A = C ∧ B ≠ D) ∨ A ≠ C := by omega
theorem ka2 {W : World} {a : Addr} {v : Value} (o : Obj) (h : W.cell? a = some v) : (W.alloc o).cell? a = some v := (World.cell?_alloc_some _ _ _ (by rw [h]; rfl)).trans h

set_option maxRecDepth 20000 in
set_option maxHeartbeats 8000000 in
theorem rt_go (a b na nb ma mb x y A B C D : Int) (X Y U V : ByteArray) (w : World) (E : Env w) (hxy : (X.toList == Y.toList) = (x == y)) (huv : (U.toList == V.toList) = (A == C && B == D))
    (PX : ∀ w, Hid (Calls Tryd.prog 11 #[.int .i64 a, .int .i64 4294967296] w fun e w' => e = .returned (.int .i64 x) ∧ w = w'))
    (PY : ∀ w, Hid (Calls Tryd.prog 11 #[.int .i64 b, .int .i64 4294967296] w fun e w' => e = .returned (.int .i64 y) ∧ w = w'))
    (NE : ∀ w, Hid (Calls Tryd.prog 12 #[.int .i64 na, .int .i64 nb] w fun e w' => e = .returned (.agg #[.int .i64 A, .int .i64 B]) ∧ Below w.heap.size w w'))
    (NF : ∀ w, Hid (Calls Tryd.prog 12 #[.int .i64 ma, .int .i64 mb] w fun e w' => e = .returned (.agg #[.int .i64 C, .int .i64 D]) ∧ Below w.heap.size w w'))
    (FX : ∀ w, Env w → Hid (Calls Tryd.prog 20 #[.int .i64 x] w fun e w' => e = .returned (.tuple #[.string X, .int .i64 0]) ∧ Below w.heap.size w w'))
    (FY : ∀ w, Env w → Hid (Calls Tryd.prog 20 #[.int .i64 y] w fun e w' => e = .returned (.tuple #[.string Y, .int .i64 0]) ∧ Below w.heap.size w w'))
    (PA : ∀ w, Env w → Hid (Calls Tryd.prog 16 #[.string X] w fun e w' => e = .returned (.tuple #[.int .i64 x, .int .i64 0]) ∧ Below w.heap.size w w'))
    (GU : ∀ w, Env w → Hid (Calls Tryd.prog 21 #[.agg #[.int .i64 A, .int .i64 B]] w fun e w' => e = .returned (.tuple #[.string U, .int .i64 0]) ∧ Below w.heap.size w w'))
    (GV : ∀ w, Env w → Hid (Calls Tryd.prog 21 #[.agg #[.int .i64 C, .int .i64 D]] w fun e w' => e = .returned (.tuple #[.string V, .int .i64 0]) ∧ Below w.heap.size w w'))
    (PD : ∀ w, Env w → Hid (Calls Tryd.prog 18 #[.string U] w fun e w' => e = .returned (.tuple #[.agg #[.int .i64 A, .int .i64 B], .int .i64 0]) ∧ Below w.heap.size w w')) :
    Calls Tryd.prog 5 #[.int .i64 a, .int .i64 b, .agg #[.int .i64 na, .int .i64 nb], .agg #[.int .i64 ma, .int .i64 mb]] w fun e w' => e = .returned (.bool true) ∧ Below w.heap.size w w' := by
  have EX := fun w E => Lib.hid (ex_any w E)
  have HE := Lib.hid E
  clear E
  go_enter Tryd.func5, Tryd.ntmps5
  go_wp2_with fail
  have hb0 := ((Below.refl w.heap.size w).alloc (Nat.le_refl _) (.cells #[.int .i64 na, .int .i64 nb] 23)).alloc (by simp) (.cells #[.int .i64 ma, .int .i64 mb] 23)
  have n0 : ((w.alloc (.cells #[.int .i64 na, .int .i64 nb] 23)).alloc (.cells #[.int .i64 ma, .int .i64 mb] 23)).cell? ⟨w.heap.size, 0, none⟩ = some (.int .i64 na) := by simp
  have n1 : ((w.alloc (.cells #[.int .i64 na, .int .i64 nb] 23)).alloc (.cells #[.int .i64 ma, .int .i64 mb] 23)).cell? ⟨w.heap.size, 1, none⟩ = some (.int .i64 nb) := by simp
  have m0 : ((w.alloc (.cells #[.int .i64 na, .int .i64 nb] 23)).alloc (.cells #[.int .i64 ma, .int .i64 mb] 23)).cell? ⟨w.heap.size + 1, 0, none⟩ = some (.int .i64 ma) := by simp
  have m1 : ((w.alloc (.cells #[.int .i64 na, .int .i64 nb] 23)).alloc (.cells #[.int .i64 ma, .int .i64 mb] 23)).cell? ⟨w.heap.size + 1, 1, none⟩ = some (.int .i64 mb) := by simp
  refine (EX _ (HE.out.stay hb0)).out.mono ?_
  rintro e w1 ⟨rfl, hb1⟩
  replace n0 := kc2 hb1 n0
  replace n1 := kc2 hb1 n1
  replace m0 := kc2 hb1 m0
  replace m1 := kc2 hb1 m1
  have h1 := hb0.trans (hb1.mono hb0.size)
  clear hb0 hb1
  go_wp2_with fail
  refine (PX _).out.mono ?_
  rintro e w2 ⟨rfl, rfl⟩
  go_wp2_with fail
  refine (PY _).out.mono ?_
  rintro e w2 ⟨rfl, rfl⟩
  go_wp2_with fail
  refine (NE _).out.mono ?_
  rintro e w2 ⟨rfl, hb2⟩
  replace m0 := ka2 (.cells #[.int .i64 A, .int .i64 B] 23) (kc2 hb2 m0)
  replace m1 := ka2 (.cells #[.int .i64 A, .int .i64 B] 23) (kc2 hb2 m1)
  have h2 := (h1.trans (hb2.mono h1.size))
  have h2a := h2.alloc h2.size (.cells #[.int .i64 A, .int .i64 B] 23)
  have p0 : (w2.alloc (.cells #[.int .i64 A, .int .i64 B] 23)).cell? ⟨w2.heap.size, 0, none⟩ = some (.int .i64 A) := by simp
  have p1 : (w2.alloc (.cells #[.int .i64 A, .int .i64 B] 23)).cell? ⟨w2.heap.size, 1, none⟩ = some (.int .i64 B) := by simp
  clear n0 n1 h1 hb2 h2
  obtain ⟨P, hP⟩ : ∃ P, w2.heap.size = P := ⟨_, rfl⟩
  rw [hP] at p0 p1
  have HP := Lib.hid hP
  clear hP
  go_wp2_with fail
  rw [HP.out]
  refine (NF _).out.mono ?_
  rintro e w3 ⟨rfl, hb3⟩
  replace p0 := ka2 (.cells #[.int .i64 C, .int .i64 D] 23) (kc2 hb3 p0)
  replace p1 := ka2 (.cells #[.int .i64 C, .int .i64 D] 23) (kc2 hb3 p1)
  have h3 := (h2a.trans (hb3.mono h2a.size))
  have hT := h3.alloc h3.size (.cells #[.int .i64 C, .int .i64 D] 23)
  have q0 : (w3.alloc (.cells #[.int .i64 C, .int .i64 D] 23)).cell? ⟨w3.heap.size, 0, none⟩ = some (.int .i64 C) := by simp
  have q1 : (w3.alloc (.cells #[.int .i64 C, .int .i64 D] 23)).cell? ⟨w3.heap.size, 1, none⟩ = some (.int .i64 D) := by simp
  clear h2a hb3 h3 m0 m1
  go_wp2_with fail
  obtain ⟨Q, hQ⟩ : ∃ Q, w3.heap.size = Q := ⟨_, rfl⟩
  rw [hQ] at q0 q1
  rw [hQ]
  clear hQ
  obtain ⟨W3, hW3⟩ : ∃ W, w3.alloc (.cells #[.int .i64 C, .int .i64 D] 23) = W := ⟨_, rfl⟩
  rw [hW3] at p0 p1 q0 q1 hT
  rw [hW3]
  clear hW3 EX NE NF PX PY
  refine (FX _ (HE.out.stay hT)).out.mono ?_
  rintro e v0 ⟨rfl, hv0⟩
  replace p0 := kc2 hv0 p0
  replace p1 := kc2 hv0 p1
  replace q0 := kc2 hv0 q0
  replace q1 := kc2 hv0 q1
  replace hT := hT.trans (hv0.mono hT.size)
  clear hv0 FX
  go_wp2_with fail
  refine (FY _ (HE.out.stay hT)).out.mono ?_
  rintro e v1 ⟨rfl, hv1⟩
  replace p0 := kc2 hv1 p0
  replace p1 := kc2 hv1 p1
  replace q0 := kc2 hv1 q0
  replace q1 := kc2 hv1 q1
  replace hT := hT.trans (hv1.mono hT.size)
  clear hv1 FY
  go_wp2_with fail
  refine (PA _ (HE.out.stay hT)).out.mono ?_
  rintro e v2 ⟨rfl, hv2⟩
  replace p0 := kc2 hv2 p0
  replace p1 := kc2 hv2 p1
  replace q0 := kc2 hv2 q0
  replace q1 := kc2 hv2 q1
  replace hT := hT.trans (hv2.mono hT.size)
  clear hv2 PA
  go_wp2_with fail
  refine (GU _ (HE.out.stay hT)).out.mono ?_
  rintro e v3 ⟨rfl, hv3⟩
  replace p0 := kc2 hv3 p0
  replace p1 := kc2 hv3 p1
  replace q0 := kc2 hv3 q0
  replace q1 := kc2 hv3 q1
  replace hT := hT.trans (hv3.mono hT.size)
  clear hv3 GU
  go_wp2_with fail
  refine (GV _ (HE.out.stay hT)).out.mono ?_
  rintro e v4 ⟨rfl, hv4⟩
  replace p0 := kc2 hv4 p0
  replace p1 := kc2 hv4 p1
  replace q0 := kc2 hv4 q0
  replace q1 := kc2 hv4 q1
  replace hT := hT.trans (hv4.mono hT.size)
  clear hv4 GV
  go_wp2_with fail
  refine (PD _ (HE.out.stay hT)).out.mono ?_
  rintro e v5 ⟨rfl, hv5⟩
  replace p0 := kc2 hv5 p0
  replace p1 := kc2 hv5 p1
  replace q0 := kc2 hv5 q0
  replace q1 := kc2 hv5 q1
  replace hT := hT.trans (hv5.mono hT.size)
  clear hv5 PD
  replace p0 := ka2 (.cells #[.int .i64 A, .int .i64 B] 23) p0
  replace p1 := ka2 (.cells #[.int .i64 A, .int .i64 B] 23) p1
  replace q0 := ka2 (.cells #[.int .i64 A, .int .i64 B] 23) q0
  replace q1 := ka2 (.cells #[.int .i64 A, .int .i64 B] 23) q1
  replace hT := hT.alloc hT.size (.cells #[.int .i64 A, .int .i64 B] 23)
  rcases dec3 A B C D with ⟨rfl, rfl⟩ | ⟨rfl, hn⟩ | hn
  · go_wp2_with fail
    go_ret
    exact ⟨rfl, hT⟩
  · have hf : (B == D) = false := beq_eq_false_iff_ne.2 hn
    go_wp2_with fail
    go_ret
    exact ⟨ret_bool (by simp), hT⟩
  · have hf : (A == C) = false := beq_eq_false_iff_ne.2 hn
    go_wp2_with fail
    go_ret
    exact ⟨ret_bool (by simp), hT⟩

theorem rt_walk (a b na nb ma mb : Int) (w : World) (la : -9223372036854775808 ≤ a) (ua : a ≤ 9223372036854775807) (lb : -9223372036854775808 ≤ b) (ub : b ≤ 9223372036854775807) (lna : -9223372036854775808 ≤ na) (una : na ≤ 9223372036854775807) (lnb : -9223372036854775808 ≤ nb) (unb : nb ≤ 9223372036854775807) (lma : -9223372036854775808 ≤ ma) (uma : ma ≤ 9223372036854775807) (lmb : -9223372036854775808 ≤ mb) (umb : mb ≤ 9223372036854775807) (E : Env w) :
    Calls Tryd.prog 5 #[.int .i64 a, .int .i64 b, .agg #[.int .i64 na, .int .i64 nb], .agg #[.int .i64 ma, .int .i64 mb]] w fun e w' => e = .returned (.bool true) ∧ Below w.heap.size w w' := by
  obtain ⟨x, -, hx, PX⟩ := pick_dom a 4294967296 la ua (by decide) (by decide)
  obtain ⟨y, -, hy, PY⟩ := pick_dom b 4294967296 lb ub (by decide) (by decide)
  obtain ⟨A, B, -, -, hv, NE⟩ := net_dom na nb lna una lnb unb
  obtain ⟨C, D, -, -, kv, NF⟩ := net_dom ma mb lma uma lmb umb
  refine rt_go a b na nb ma mb x y A B C D ⟨(fmtL x).toArray⟩ ⟨(fmtL y).toArray⟩ ⟨(fmtPL A B).toArray⟩ ⟨(fmtPL C D).toArray⟩ w E ?_ ?_ PX PY NE NF
    (fun w E => Lib.hid (fmt_any x w (by omega) (by omega) E)) (fun w E => Lib.hid (fmt_any y w (by omega) (by omega) E)) (fun w E => Lib.hid (parse_some w (by rw [size_mk]; have := fmtL_len x (by omega) (by omega); omega) E (parse_fmt x (by omega) (by omega))))
    (fun w E => Lib.hid (fp_in A B w (by have := last_bd hv; omega) (by have := last_bd hv; omega) (by have := last_bd hv; omega) (by have := last_bd hv; omega) hv E)) (fun w E => Lib.hid (fp_in C D w (by have := last_bd kv; omega) (by have := last_bd kv; omega) (by have := last_bd kv; omega) (by have := last_bd kv; omega) kv E)) (fun w E => Lib.hid ?_)
  · rw [str_eq, Bool.eq_iff_iff]
    simp only [decide_eq_true_eq, beq_iff_eq]
    exact ⟨fmt_inj (by omega) (by omega) (by omega) (by omega), fun e => by rw [e]⟩
  · rw [str_eq, Bool.eq_iff_iff]
    simp only [decide_eq_true_eq, Bool.and_eq_true, beq_iff_eq]
    exact ⟨fp_inj hv kv, fun e => by rw [e.1, e.2]⟩
  · have hl := last_bd hv
    have h := pp_any ⟨(fmtPL A B).toArray⟩ w (by rw [size_mk]; have := fmtL_len A (by omega) (by omega); have := (itoa_len B (by omega) (by omega)).2; unfold fmtPL; simp only [List.length_append, List.length_cons]; omega) E
    unfold ppA ppB ppE at h
    rw [pp_fmt A B hv] at h
    exact h
end Go.Proofs.YtobcecnmeepjpaaDoor

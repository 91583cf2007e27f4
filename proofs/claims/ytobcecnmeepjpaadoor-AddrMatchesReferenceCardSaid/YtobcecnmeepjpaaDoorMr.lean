/- The walk of AddrMatchesReference. -/
import Derived.Test.YtobcecnmeepjpaaDoorTold
namespace Go.Proofs.YtobcecnmeepjpaaDoor
open Go.RowKit
set_option linter.unusedVariables false

theorem kc2 {W w' : World} {a : Addr} {v : Value} (hb : Below W.heap.size W w') (h : W.cell? a = some v) : w'.cell? a = some v := (hb.cell (World.block_lt_of_cell? _ _ h)).trans h

set_option maxRecDepth 20000 in
set_option maxHeartbeats 4000000 in
theorem mr_walk (a na nb : Int) (w : World) (la : -9223372036854775808 ≤ a) (ua : a ≤ 9223372036854775807) (lna : -9223372036854775808 ≤ na) (una : na ≤ 9223372036854775807) (lnb : -9223372036854775808 ≤ nb) (unb : nb ≤ 9223372036854775807) (E : Env w) :
    Calls Tryd.prog 3 #[.int .i64 a, .agg #[.int .i64 na, .int .i64 nb]] w fun e w' => e = .returned (.bool true) ∧ Below w.heap.size w w' := by
  obtain ⟨x, -, hx, PX⟩ := pick_dom a 4294967296 la ua (by decide) (by decide)
  obtain ⟨A, B, -, -, hv, NE⟩ := net_dom na nb lna una lnb unb
  have hl := last_bd hv
  have T1 := fun w E => Lib.hid (told_any a na nb w la ua lna una lnb unb E)
  have T2 := fun w E => Lib.hid (told_any x na nb w (by omega) (by omega) lna una lnb unb E)
  have T3 := fun w E => Lib.hid (told_any a A B w la ua (by omega) (by omega) (by omega) (by omega) E)
  have T4 := fun w E => Lib.hid (told_any x A B w (by omega) (by omega) (by omega) (by omega) (by omega) (by omega) E)
  have T5 := fun w E => Lib.hid (told_any A A B w (by omega) (by omega) (by omega) (by omega) (by omega) (by omega) E)
  have T6 := fun w E => Lib.hid (told_any x A nb w (by omega) (by omega) (by omega) (by omega) lnb unb E)
  have T7 := fun w E => Lib.hid (told_any a na B w la ua lna una (by omega) (by omega) E)
  have EX := fun w E => Lib.hid (ex_any w E)
  have HE := Lib.hid E
  clear E hv hx hl
  go_enter Tryd.func3, Tryd.ntmps3
  go_wp2_with fail
  have hb0 := (Below.refl w.heap.size w).alloc (Nat.le_refl _) (.cells #[.int .i64 na, .int .i64 nb] 23)
  have p0 : (w.alloc (.cells #[.int .i64 na, .int .i64 nb] 23)).cell? ⟨w.heap.size, 0, none⟩ = some (.int .i64 na) := by simp
  have p1 : (w.alloc (.cells #[.int .i64 na, .int .i64 nb] 23)).cell? ⟨w.heap.size, 1, none⟩ = some (.int .i64 nb) := by simp
  refine (EX _ (HE.out.stay hb0)).out.mono ?_
  rintro e w1 ⟨rfl, hb1⟩
  obtain ⟨h1, q0, q1⟩ := keepN ⟨hb0, p0, p1⟩ hb1
  clear hb0 p0 p1 hb1
  go_wp2_with fail
  refine (PX _).out.mono ?_
  rintro e w2 ⟨rfl, rfl⟩
  go_wp2_with fail
  refine (NE _).out.mono ?_
  rintro e w2 ⟨rfl, hb2⟩
  obtain ⟨h2, q0, q1⟩ := keepN ⟨h1, q0, q1⟩ hb2
  obtain ⟨h3, r0, r1⟩ := keepNa ⟨h2, q0, q1⟩ (.cells #[.int .i64 A, .int .i64 B] 23)
  have s0 : (w2.alloc (.cells #[.int .i64 A, .int .i64 B] 23)).cell? ⟨w2.heap.size, 0, none⟩ = some (.int .i64 A) := by simp
  have s1 : (w2.alloc (.cells #[.int .i64 A, .int .i64 B] 23)).cell? ⟨w2.heap.size, 1, none⟩ = some (.int .i64 B) := by simp
  clear h1 hb2 h2 q0 q1
  go_wp2_with fail
  obtain ⟨P, hP⟩ : ∃ P, w2.heap.size = P := ⟨_, rfl⟩
  rw [hP] at s0 s1
  rw [hP]
  clear hP
  obtain ⟨W3, hW3⟩ : ∃ W, w2.alloc (.cells #[.int .i64 A, .int .i64 B] 23) = W := ⟨_, rfl⟩
  rw [hW3] at r0 r1 s0 s1 h3
  rw [hW3]
  clear hW3 NE PX EX
  refine (T1 _ (HE.out.stay h3)).out.mono ?_
  rintro e v1 ⟨rfl, hv1⟩
  replace r0 := kc2 hv1 r0
  replace r1 := kc2 hv1 r1
  replace s0 := kc2 hv1 s0
  replace s1 := kc2 hv1 s1
  replace h3 := h3.trans (hv1.mono h3.size)
  clear hv1 T1
  go_wp2_with fail
  refine (T2 _ (HE.out.stay h3)).out.mono ?_
  rintro e v2 ⟨rfl, hv2⟩
  replace r0 := kc2 hv2 r0
  replace r1 := kc2 hv2 r1
  replace s0 := kc2 hv2 s0
  replace s1 := kc2 hv2 s1
  replace h3 := h3.trans (hv2.mono h3.size)
  clear hv2 T2
  go_wp2_with fail
  refine (T3 _ (HE.out.stay h3)).out.mono ?_
  rintro e v3 ⟨rfl, hv3⟩
  replace r0 := kc2 hv3 r0
  replace r1 := kc2 hv3 r1
  replace s0 := kc2 hv3 s0
  replace s1 := kc2 hv3 s1
  replace h3 := h3.trans (hv3.mono h3.size)
  clear hv3 T3
  go_wp2_with fail
  refine (T4 _ (HE.out.stay h3)).out.mono ?_
  rintro e v4 ⟨rfl, hv4⟩
  replace r0 := kc2 hv4 r0
  replace r1 := kc2 hv4 r1
  replace s0 := kc2 hv4 s0
  replace s1 := kc2 hv4 s1
  replace h3 := h3.trans (hv4.mono h3.size)
  clear hv4 T4
  go_wp2_with fail
  refine (T5 _ (HE.out.stay h3)).out.mono ?_
  rintro e v5 ⟨rfl, hv5⟩
  replace r0 := kc2 hv5 r0
  replace r1 := kc2 hv5 r1
  replace s0 := kc2 hv5 s0
  replace s1 := kc2 hv5 s1
  replace h3 := h3.trans (hv5.mono h3.size)
  clear hv5 T5
  go_wp2_with fail
  refine (T6 _ (HE.out.stay h3)).out.mono ?_
  rintro e v6 ⟨rfl, hv6⟩
  replace r0 := kc2 hv6 r0
  replace r1 := kc2 hv6 r1
  replace s0 := kc2 hv6 s0
  replace s1 := kc2 hv6 s1
  replace h3 := h3.trans (hv6.mono h3.size)
  clear hv6 T6
  go_wp2_with fail
  refine (T7 _ (HE.out.stay h3)).out.mono ?_
  rintro e v7 ⟨rfl, hv7⟩
  replace r0 := kc2 hv7 r0
  replace r1 := kc2 hv7 r1
  replace s0 := kc2 hv7 s0
  replace s1 := kc2 hv7 s1
  replace h3 := h3.trans (hv7.mono h3.size)
  clear hv7 T7
  go_wp2_with fail
  go_ret
  exact ⟨rfl, h3⟩
end Go.Proofs.YtobcecnmeepjpaaDoor

/- Contract of the statements' own Frame. -/
import Derived.Test.YtgfldbllokbnaaaDoorLkMath
import Derived.Deep.RegionHeld3
namespace Go.Proofs.YtgfldbllokbnaaaDoor
open Go.RowKit
attribute [local go_sem] Oper.semAt_some

def cutK (s : ByteArray) : ByteArray := s.extract 0 (min s.size 1000)
theorem cutK_size (s : ByteArray) : (cutK s).size ≤ 1000 ∧ (cutK s).size ≤ s.size := by
  unfold cutK; rw [ByteArray.size_extract]; omega
theorem okF_pick (a b c : Int) (s : ByteArray) : okF (1 + pickZ a 65535) (1 + pickZ b 65534) (1 + pickZ c 2) (cutK s).size := by
  have h1 := pickZ_bd a 65535 (by decide)
  have h2 := pickZ_bd b 65534 (by decide)
  have h3 := pickZ_bd c 2 (by decide)
  have h4 := (cutK_size s).1
  unfold okF
  omega

set_option maxHeartbeats 1600000 in
theorem frame_cut (a b c : Int) (s t : ByteArray) (w : World) (a1 : -9223372036854775808 ≤ a) (a2 : a ≤ 9223372036854775807) (b1 : -9223372036854775808 ≤ b) (b2 : b ≤ 9223372036854775807) (c1 : -9223372036854775808 ≤ c) (c2 : c ≤ 9223372036854775807) (hs : s.size ≤ maxLen) (hk : 1000 < s.size) (ht : s.extract 0 1000 = t) :
    Calls Tryd.prog 19 #[fv a b c s] w fun e w' => e = .returned (fv (1 + pickZ a 65535) (1 + pickZ b 65534) (1 + pickZ c 2) t) ∧ Below w.heap.size w w' := by
  have h1 := pickZ_bd a 65535 (by decide)
  have h2 := pickZ_bd b 65534 (by decide)
  have h3 := pickZ_bd c 2 (by decide)
  unfold maxLen at hs
  have k1 : (1000 : Int) ≤ (s.size : Int) := by omega
  have k2 : (1000 : Int) < (s.size : Int) := by omega
  have x1 : IntKind.i64.wrap (1 + pickZ a 65535) = 1 + pickZ a 65535 := wraps_i64 _ (by omega) (by omega)
  have x2 : IntKind.i64.wrap (1 + pickZ b 65534) = 1 + pickZ b 65534 := wraps_i64 _ (by omega) (by omega)
  have x3 : IntKind.i64.wrap (1 + pickZ c 2) = 1 + pickZ c 2 := wraps_i64 _ (by omega) (by omega)
  go_enter Tryd.func19, Tryd.ntmps19
  go_wp2
  go_region_held3 (fun w' => w'.cell? ⟨w.heap.size, 0, none⟩ = some (.int .i64 a) ∧ w'.cell? ⟨w.heap.size, 1, none⟩ = some (.int .i64 b) ∧ w'.cell? ⟨w.heap.size, 2, none⟩ = some (.int .i64 c) ∧ w'.cell? ⟨w.heap.size, 3, none⟩ = some (.string s))
    (go_keep)
    ((go_at_call 20; refine (pick_any _ _ _ (by assumption) (by assumption) (by decide) (by decide)).mono ?_; rintro e w' ⟨rfl, rfl⟩))
  all_goals go_wp2
  all_goals (try simp only [Exit.inBlock, Exit.then])
  all_goals refine bodyPost_ret (v := fv (1 + pickZ a 65535) (1 + pickZ b 65534) (1 + pickZ c 2) t) (by simp [results, Tryd.results19, go_sem]; try rfl) rfl ?_
  all_goals exact ⟨rfl, (((Below.refl _ w).alloc (Nat.le_refl _) _).alloc (by simp) _).drew⟩

set_option maxHeartbeats 1600000 in
theorem frame_uncut (a b c : Int) (s t : ByteArray) (w : World) (a1 : -9223372036854775808 ≤ a) (a2 : a ≤ 9223372036854775807) (b1 : -9223372036854775808 ≤ b) (b2 : b ≤ 9223372036854775807) (c1 : -9223372036854775808 ≤ c) (c2 : c ≤ 9223372036854775807) (hs : s.size ≤ maxLen) (hk : s.size ≤ 1000) (ht : s = t) :
    Calls Tryd.prog 19 #[fv a b c s] w fun e w' => e = .returned (fv (1 + pickZ a 65535) (1 + pickZ b 65534) (1 + pickZ c 2) t) ∧ Below w.heap.size w w' := by
  have h1 := pickZ_bd a 65535 (by decide)
  have h2 := pickZ_bd b 65534 (by decide)
  have h3 := pickZ_bd c 2 (by decide)
  unfold maxLen at hs
  subst ht
  have k0 : (0 : Int) ≤ (s.size : Int) := by omega
  have k1 : (s.size : Int) ≤ 1000 := by omega
  have k2 : ((1000 : Int) < (s.size : Int)) = False := eq_false (by omega)
  have x1 : IntKind.i64.wrap (1 + pickZ a 65535) = 1 + pickZ a 65535 := wraps_i64 _ (by omega) (by omega)
  have x2 : IntKind.i64.wrap (1 + pickZ b 65534) = 1 + pickZ b 65534 := wraps_i64 _ (by omega) (by omega)
  have x3 : IntKind.i64.wrap (1 + pickZ c 2) = 1 + pickZ c 2 := wraps_i64 _ (by omega) (by omega)
  go_enter Tryd.func19, Tryd.ntmps19
  go_wp2
  go_region_held3 (fun w' => w'.cell? ⟨w.heap.size, 0, none⟩ = some (.int .i64 a) ∧ w'.cell? ⟨w.heap.size, 1, none⟩ = some (.int .i64 b) ∧ w'.cell? ⟨w.heap.size, 2, none⟩ = some (.int .i64 c) ∧ w'.cell? ⟨w.heap.size, 3, none⟩ = some (.string s))
    (go_keep)
    ((go_at_call 20; refine (pick_any _ _ _ (by assumption) (by assumption) (by decide) (by decide)).mono ?_; rintro e w' ⟨rfl, rfl⟩))
  all_goals go_wp2
  all_goals (try simp only [Exit.inBlock, Exit.then])
  all_goals refine bodyPost_ret (v := fv (1 + pickZ a 65535) (1 + pickZ b 65534) (1 + pickZ c 2) s) (by simp [results, Tryd.results19, go_sem]; try rfl) rfl ?_
  all_goals exact ⟨rfl, (((Below.refl _ w).alloc (Nat.le_refl _) _).alloc (by simp) _).drew⟩

theorem frame_law (a b c : Int) (s : ByteArray) (w : World) (a1 : -9223372036854775808 ≤ a) (a2 : a ≤ 9223372036854775807) (b1 : -9223372036854775808 ≤ b) (b2 : b ≤ 9223372036854775807) (c1 : -9223372036854775808 ≤ c) (c2 : c ≤ 9223372036854775807) (hs : s.size ≤ maxLen) :
    Calls Tryd.prog 19 #[fv a b c s] w fun e w' => e = .returned (fv (1 + pickZ a 65535) (1 + pickZ b 65534) (1 + pickZ c 2) (cutK s)) ∧ Below w.heap.size w w' := by
  by_cases hk : 1000 < s.size
  · exact frame_cut a b c s _ w a1 a2 b1 b2 c1 c2 hs hk (by unfold cutK; rw [Nat.min_eq_right (by omega)])
  · exact frame_uncut a b c s _ w a1 a2 b1 b2 c1 c2 hs (by omega) (by unfold cutK; rw [Nat.min_eq_left (by omega)]; refine ba_ext ?_; rw [extract_list, List.drop_zero, List.take_of_length_le (by rw [size_toList]; omega)])
end Go.Proofs.YtgfldbllokbnaaaDoor

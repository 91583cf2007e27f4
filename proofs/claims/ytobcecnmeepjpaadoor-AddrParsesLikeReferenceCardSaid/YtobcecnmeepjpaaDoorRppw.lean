/- The contract of the reference's ParsePrefix. -/
import Derived.Test.YtobcecnmeepjpaaDoorRcut
import Derived.Test.YtobcecnmeepjpaaDoorRefB
namespace Go.Proofs.YtobcecnmeepjpaaDoor
open Go.RowKit
set_option linter.unusedVariables false

theorem u8_47 (x : UInt8) (h : x.toNat = 47) : x = 47 := by
  apply UInt8.toNat_inj.1; rw [h]; rfl

set_option maxRecDepth 20000 in
set_option maxHeartbeats 8000000 in
theorem rpp_go (s : ByteArray) (w : World) (R : Option (Int × Int)) (hs : s.size ≤ 4294967280) (hR : ppL s = R) :
    Calls Tryd.prog 19 #[.string s] w fun e w' => e = .returned (.tuple #[.agg #[.int .i64 (R.getD (0, 0)).1, .int .i64 (R.getD (0, 0)).2], .int .i64 (if R.isSome then 0 else 30)]) ∧ Below w.heap.size w w' := by
  have NUM := fun (z : ByteArray) w h => Lib.hid (rnum_any z 32 w h (.inr rfl))
  have PAR := fun (z : ByteArray) w h => Lib.hid (rparse_go z w (parseL z) h rfl)
  have HR := Lib.hid hR
  clear hR
  have hb0 := (Below.refl w.heap.size w).alloc (Nat.le_refl _) (.cells #[.int .i64 0, .int .i64 0] 23)
  have c0 : (w.alloc (.cells #[.int .i64 0, .int .i64 0] 23)).cell? ⟨w.heap.size, 0, none⟩ = some (.int .i64 0) := by simp
  have c1 : (w.alloc (.cells #[.int .i64 0, .int .i64 0] 23)).cell? ⟨w.heap.size, 1, none⟩ = some (.int .i64 0) := by simp
  have z0 : (w.alloc (.cells #[.int .i64 0, .int .i64 0] 23)).frozen? ⟨w.heap.size, 0, none⟩ = false := by simp
  have z1 : (w.alloc (.cells #[.int .i64 0, .int .i64 0] 23)).frozen? ⟨w.heap.size, 1, none⟩ = false := by simp
  go_enter Tryd.func19, Tryd.ntmps19
  go_wp2_with fail
  go_loop [4] (fun iv => ∃ (k : Nat), k ≤ s.size ∧ iv = .int .i64 k ∧ Hid ((47 : UInt8) ∉ s.data.toList.take k)) (fun i => s.size - (intOf i).toNat)
  case atStart => exact ⟨0, by omega, rfl, Lib.hid (by simp)⟩
  case round =>
    obtain ⟨k, hk, rfl, hn⟩ := hrel
    by_cases h : k < s.size
    · have hy := s[k].toNat_lt
      by_cases c : s[k].toNat = 47
      · have hcut := cut_at s k h hn.out (u8_47 _ c)
        have J1 := fun w => PAR (s.extract 0 k) w (by rw [ByteArray.size_extract]; omega)
        have J2 := fun w => NUM (s.extract (k + 1) s.size) w (by rw [ByteArray.size_extract]; omega)
        obtain ⟨q1, hq1⟩ : ∃ q, s.extract 0 k = q := ⟨_, rfl⟩
        obtain ⟨q2, hq2⟩ : ∃ q, s.extract (k + 1) s.size = q := ⟨_, rfl⟩
        rw [hq1] at J1 hcut
        rw [hq2] at J2 hcut
        have hN := numZ_rng q2.data.toList
        obtain ⟨nv, hnv⟩ : ∃ nv, (numZ q2.data.toList 32).getD (-1) = nv := ⟨_, rfl⟩
        rw [hnv] at hN
        simp only [hnv] at J2
        have hR := HR.out
        clear HR hn NUM PAR
        cases hp : parseL q1 with
        | none =>
          rw [hp] at J1
          rw [ppL_a (by rw [hcut.1]; exact hp)] at hR
          subst hR
          clear hp hnv hcut
          have hl0 := World.block_lt_of_cell? _ _ c0
          go_wp2_with fail
          refine (J1 _).out.mono ?_
          rintro e w2 ⟨rfl, hb2⟩
          obtain ⟨hj1, hj2, hj3⟩ := keep2 ⟨hb0, c0, c1⟩ hb2
          have hfz := (hb2.frozen (p := ⟨w.heap.size, 0, none⟩) hl0).trans z0
          have hfz1 := (hb2.frozen (p := ⟨w.heap.size, 1, none⟩) hl0).trans z1
          clear c0 c1 z0 z1 hb0 hb2 J1 hl0
          go_wp2_with fail
          refine (J2 _).out.mono ?_
          rintro e w3 ⟨rfl, hb3⟩
          obtain ⟨hi1, hi2, hi3⟩ := keep2 ⟨hj1, hj2, hj3⟩ hb3
          have hlt := World.block_lt_of_cell? _ _ hj2
          have hfy := (hb3.frozen (p := ⟨w.heap.size, 0, none⟩) hlt).trans hfz
          have hfy1 := (hb3.frozen (p := ⟨w.heap.size, 1, none⟩) hlt).trans hfz1
          have hlt3 : w.heap.size < w3.heap.size := World.block_lt_of_cell? _ _ hi2
          clear hj2 hj3 hfz hfz1 hb3 hj1 J2 hlt
          obtain ⟨g0, g1⟩ := two_sets_alloc hi2 hi3 (.int .i64 0) (.int .i64 0) (.cells #[.int .i64 0, .int .i64 nv] 23)
          go_wp2_with fail
          try simp only [Exit.inBlock, Exit.then]
          refine bodyPost_ret (by simp [results, Tryd.results19, go_sem, g0, g1]; try rfl) rfl ?_
          exact ⟨rfl, ((hi1.setCell (Nat.le_refl _) _).setCell (Nat.le_refl _) _).alloc (by simp only [World.size_setCell]; omega) _⟩
        | some a =>
          rw [hp] at J1
          have hb := parseL_bd hp
          have V := fun w => Lib.hid (rvp_any a nv w (by omega) (by omega) (by omega) (by omega))
          cases hz : vpZ a nv with
          | false =>
            rw [hz] at V
            rw [ppL_b (by rw [hcut.1]; exact hp) (by rw [hcut.2, hnv]; exact hz)] at hR
            subst hR
            clear hb hN hz
            clear hp hnv hcut
            have hl0 := World.block_lt_of_cell? _ _ c0
            go_wp2_with fail
            refine (J1 _).out.mono ?_
            rintro e w2 ⟨rfl, hb2⟩
            obtain ⟨hj1, hj2, hj3⟩ := keep2 ⟨hb0, c0, c1⟩ hb2
            have hfz := (hb2.frozen (p := ⟨w.heap.size, 0, none⟩) hl0).trans z0
            have hfz1 := (hb2.frozen (p := ⟨w.heap.size, 1, none⟩) hl0).trans z1
            clear c0 c1 z0 z1 hb0 hb2 J1 hl0
            go_wp2_with fail
            refine (J2 _).out.mono ?_
            rintro e w3 ⟨rfl, hb3⟩
            obtain ⟨hi1, hi2, hi3⟩ := keep2 ⟨hj1, hj2, hj3⟩ hb3
            have hlt := World.block_lt_of_cell? _ _ hj2
            have hfy := (hb3.frozen (p := ⟨w.heap.size, 0, none⟩) hlt).trans hfz
            have hfy1 := (hb3.frozen (p := ⟨w.heap.size, 1, none⟩) hlt).trans hfz1
            have hlt3 : w.heap.size < w3.heap.size := World.block_lt_of_cell? _ _ hi2
            clear hj2 hj3 hfz hfz1 hb3 hj1 J2 hlt
            have e0 : (w3.alloc (.cells #[.int .i64 a, .int .i64 nv] 23)).cell? ⟨w3.heap.size, 0, none⟩ = some (.int .i64 a) := by simp
            have e1 : (w3.alloc (.cells #[.int .i64 a, .int .i64 nv] 23)).cell? ⟨w3.heap.size, 1, none⟩ = some (.int .i64 nv) := by simp
            have hsz : (w3.alloc (.cells #[.int .i64 a, .int .i64 nv] 23)).heap.size = w3.heap.size + 1 := by simp
            have a0 := (World.cell?_alloc_some w3 ⟨w.heap.size, 0, none⟩ (.cells #[.int .i64 a, .int .i64 nv] 23) (by rw [hi2]; rfl)).trans hi2
            have a1 := (World.cell?_alloc_some w3 ⟨w.heap.size, 1, none⟩ (.cells #[.int .i64 a, .int .i64 nv] 23) (by rw [hi3]; rfl)).trans hi3
            have f0 := (World.frozen?_alloc_old (w := w3) (a := ⟨w.heap.size, 0, none⟩) (o := (.cells #[.int .i64 a, .int .i64 nv] 23)) (by simp; omega)).trans hfy
            have f1 := (World.frozen?_alloc_old (w := w3) (a := ⟨w.heap.size, 1, none⟩) (o := (.cells #[.int .i64 a, .int .i64 nv] 23)) (by simp; omega)).trans hfy1
            have hB3 : Below w.heap.size w (w3.alloc (.cells #[.int .i64 a, .int .i64 nv] 23)) := hi1.alloc (by omega) (.cells #[.int .i64 a, .int .i64 nv] 23)
            go_wp2_with fail
            refine (V _).out.mono ?_
            rintro e w4 ⟨rfl, hb4⟩
            have k0 := (hb4.cell (World.block_lt_of_cell? _ _ e0)).trans e0
            have k1 := (hb4.cell (World.block_lt_of_cell? _ _ e1)).trans e1
            have m0 := (hb4.cell (p := ⟨w.heap.size, 0, none⟩) (by rw [hsz]; simp; omega)).trans a0
            have m1 := (hb4.cell (p := ⟨w.heap.size, 1, none⟩) (by rw [hsz]; simp; omega)).trans a1
            have n0 := (hb4.frozen (p := ⟨w.heap.size, 0, none⟩) (by rw [hsz]; simp; omega)).trans f0
            have n1 := (hb4.frozen (p := ⟨w.heap.size, 1, none⟩) (by rw [hsz]; simp; omega)).trans f1
            have hB4 := hB3.trans (hb4.mono (by rw [hsz]; omega))
            have g0 := set_same m0 (.int .i64 0)
            have g1 := (two_sets m0 m1 (.int .i64 0) (.int .i64 0)).2
            clear e0 e1 a0 a1 f0 f1 hsz hb4 hi1 hi2 hi3 hfy hfy1 hB3 V
            go_wp2_with fail
            try simp only [Exit.inBlock, Exit.then]
            refine bodyPost_ret (by simp [results, Tryd.results19, go_sem, g0, g1]; try rfl) rfl ?_
            exact ⟨rfl, (hB4.setCell (Nat.le_refl _) _).setCell (Nat.le_refl _) _⟩
          | true =>
            rw [hz] at V
            rw [ppL_c (by rw [hcut.1]; exact hp) (by rw [hcut.2, hnv]; exact hz), hcut.2, hnv] at hR
            subst hR
            clear hb hN hz
            clear hp hnv hcut
            have hl0 := World.block_lt_of_cell? _ _ c0
            go_wp2_with fail
            refine (J1 _).out.mono ?_
            rintro e w2 ⟨rfl, hb2⟩
            obtain ⟨hj1, hj2, hj3⟩ := keep2 ⟨hb0, c0, c1⟩ hb2
            have hfz := (hb2.frozen (p := ⟨w.heap.size, 0, none⟩) hl0).trans z0
            have hfz1 := (hb2.frozen (p := ⟨w.heap.size, 1, none⟩) hl0).trans z1
            clear c0 c1 z0 z1 hb0 hb2 J1 hl0
            go_wp2_with fail
            refine (J2 _).out.mono ?_
            rintro e w3 ⟨rfl, hb3⟩
            obtain ⟨hi1, hi2, hi3⟩ := keep2 ⟨hj1, hj2, hj3⟩ hb3
            have hlt := World.block_lt_of_cell? _ _ hj2
            have hfy := (hb3.frozen (p := ⟨w.heap.size, 0, none⟩) hlt).trans hfz
            have hfy1 := (hb3.frozen (p := ⟨w.heap.size, 1, none⟩) hlt).trans hfz1
            have hlt3 : w.heap.size < w3.heap.size := World.block_lt_of_cell? _ _ hi2
            clear hj2 hj3 hfz hfz1 hb3 hj1 J2 hlt
            have e0 : (w3.alloc (.cells #[.int .i64 a, .int .i64 nv] 23)).cell? ⟨w3.heap.size, 0, none⟩ = some (.int .i64 a) := by simp
            have e1 : (w3.alloc (.cells #[.int .i64 a, .int .i64 nv] 23)).cell? ⟨w3.heap.size, 1, none⟩ = some (.int .i64 nv) := by simp
            have hsz : (w3.alloc (.cells #[.int .i64 a, .int .i64 nv] 23)).heap.size = w3.heap.size + 1 := by simp
            have a0 := (World.cell?_alloc_some w3 ⟨w.heap.size, 0, none⟩ (.cells #[.int .i64 a, .int .i64 nv] 23) (by rw [hi2]; rfl)).trans hi2
            have a1 := (World.cell?_alloc_some w3 ⟨w.heap.size, 1, none⟩ (.cells #[.int .i64 a, .int .i64 nv] 23) (by rw [hi3]; rfl)).trans hi3
            have f0 := (World.frozen?_alloc_old (w := w3) (a := ⟨w.heap.size, 0, none⟩) (o := (.cells #[.int .i64 a, .int .i64 nv] 23)) (by simp; omega)).trans hfy
            have f1 := (World.frozen?_alloc_old (w := w3) (a := ⟨w.heap.size, 1, none⟩) (o := (.cells #[.int .i64 a, .int .i64 nv] 23)) (by simp; omega)).trans hfy1
            have hB3 : Below w.heap.size w (w3.alloc (.cells #[.int .i64 a, .int .i64 nv] 23)) := hi1.alloc (by omega) (.cells #[.int .i64 a, .int .i64 nv] 23)
            go_wp2_with fail
            refine (V _).out.mono ?_
            rintro e w4 ⟨rfl, hb4⟩
            have k0 := (hb4.cell (World.block_lt_of_cell? _ _ e0)).trans e0
            have k1 := (hb4.cell (World.block_lt_of_cell? _ _ e1)).trans e1
            have m0 := (hb4.cell (p := ⟨w.heap.size, 0, none⟩) (by rw [hsz]; simp; omega)).trans a0
            have m1 := (hb4.cell (p := ⟨w.heap.size, 1, none⟩) (by rw [hsz]; simp; omega)).trans a1
            have n0 := (hb4.frozen (p := ⟨w.heap.size, 0, none⟩) (by rw [hsz]; simp; omega)).trans f0
            have n1 := (hb4.frozen (p := ⟨w.heap.size, 1, none⟩) (by rw [hsz]; simp; omega)).trans f1
            have hB4 := hB3.trans (hb4.mono (by rw [hsz]; omega))
            have g0 := set_same m0 (.int .i64 a)
            have g1 := (two_sets m0 m1 (.int .i64 a) (.int .i64 nv)).2
            clear e0 e1 a0 a1 f0 f1 hsz hb4 hi1 hi2 hi3 hfy hfy1 hB3 V
            go_wp2_with fail
            try simp only [Exit.inBlock, Exit.then]
            refine bodyPost_ret (by simp [results, Tryd.results19, go_sem, g0, g1]; try rfl) rfl ?_
            exact ⟨rfl, (hB4.setCell (Nat.le_refl _) _).setCell (Nat.le_refl _) _⟩
      · have hNext := Lib.hid (slash_more s k h hn.out (fun e => c (by rw [e]; rfl)))
        clear hn NUM PAR
        go_wp2_with fail
        go_round
        case rel => exact ⟨k + 1, by omega, by go_num, hNext⟩
        case measure => simp [intOf]; omega
    · obtain rfl : k = s.size := by omega
      have hR := HR.out
      rw [cut_not s (by have := hn.out; rwa [List.take_of_length_le (by rw [Array.length_toList]; exact Nat.le_refl _)] at this)] at hR
      subst hR
      clear HR hn NUM PAR
      go_wp2_with fail
      try simp only [Exit.inBlock, Exit.then]
      refine bodyPost_ret (by simp [results, Tryd.results19, go_sem]; try rfl) rfl ?_
      exact ⟨rfl, hb0⟩
end Go.Proofs.YtobcecnmeepjpaaDoor

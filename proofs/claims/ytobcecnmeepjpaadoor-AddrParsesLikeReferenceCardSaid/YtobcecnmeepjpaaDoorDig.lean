/- The reference's Digits. -/
import Derived.Test.YtobcecnmeepjpaaDoorInv
import Derived.Laws.BytesArg
namespace Go.Proofs.YtobcecnmeepjpaaDoor
open Go.RowKit
set_option linter.unusedVariables false

theorem conv1 (w' : World) (n : Nat) (x : Int) (bs : ByteArray) (hbs : strOfNums [x] = bs) (h : w'.cell? ⟨n, 0, none⟩ = some (.int .u8 x)) :
    (convert 32 9 (.slice (some ⟨n, 0, none⟩) 1 1)).run Tryd.prog w' = .ok (.string bs) w' := by
  rw [← hbs]
  exact run_convert_bytes_arg (P := Tryd.prog) _ 32 5 Tryd.underlying32 Tryd.underlying5 n 0 1 1 [x] rfl (fun i hi => by
    obtain rfl : i = 0 := by omega
    rw [h]; rfl) 9 Tryd.underlying9

theorem itoa_small (n : Int) (h : 0 ≤ n) (h2 : n < 10) : strOfNums [48 + n] = ⟨(Lib.itoa n).toArray⟩ := by
  rw [itoa_dig3 n h (by omega)]
  unfold dig3 strOfNums
  simp only [List.map_cons, List.map_nil]
  rw [if_pos (by omega), show (48 + n).toNat = 48 + n.toNat by omega]
theorem itoa_step (n : Int) (h : 10 ≤ n) : Lib.itoa n = Lib.itoa (n / 10) ++ Lib.itoa (n % 10) := by
  unfold Lib.itoa
  rw [if_neg (by omega), if_neg (by omega), if_neg (by omega), dec_big (by omega), show (n / 10).toNat = n.toNat / 10 by omega, dec_small (n := (n % 10).toNat) (by omega), show (n % 10).toNat = n.toNat % 10 by omega]

set_option maxRecDepth 20000 in
theorem dig_1 (n : Int) (w : World) (h : 0 ≤ n) (h2 : n < 10) :
    Calls Tryd.prog 32 #[.int .i64 n] w fun e w' => e = .returned (.string ⟨(Lib.itoa n).toArray⟩) ∧ Below w.heap.size w w' := by
  obtain ⟨bs, hbs⟩ : ∃ bs : ByteArray, ⟨(Lib.itoa n).toArray⟩ = bs := ⟨_, rfl⟩
  rw [hbs]
  have hm : n % 10 = n := by omega
  have hcv := conv1 (w.alloc (.cells #[.int .u8 (48 + n % 10)] 5)) w.heap.size (48 + n % 10) bs (by rw [hm, itoa_small n h h2, hbs]) (by simp)
  clear hbs hm
  go_enter Tryd.func32, Tryd.ntmps32
  go_wp2_with fail
  go_ret
  exact ⟨rfl, (Below.refl _ _).alloc (Nat.le_refl _) _⟩

set_option maxRecDepth 20000 in
theorem dig_step (n : Int) (w : World) (h : 10 ≤ n) (u : n ≤ 9223372036854775807) (hl : (Lib.itoa (n / 10)).length ≤ 1000)
    (D : ∀ w, Hid (Calls Tryd.prog 32 #[.int .i64 (n / 10)] w fun e w' => e = .returned (.string ⟨(Lib.itoa (n / 10)).toArray⟩) ∧ Below w.heap.size w w')) :
    Calls Tryd.prog 32 #[.int .i64 n] w fun e w' => e = .returned (.string ⟨(Lib.itoa n).toArray⟩) ∧ Below w.heap.size w w' := by
  obtain ⟨bs, hbs⟩ : ∃ bs : ByteArray, ⟨(Lib.itoa (n % 10)).toArray⟩ = bs := ⟨_, rfl⟩
  obtain ⟨ds, hds⟩ : ∃ ds : ByteArray, ⟨(Lib.itoa (n / 10)).toArray⟩ = ds := ⟨_, rfl⟩
  have hz : ds.size ≤ 1000 := by rw [← hds, size_mk]; exact hl
  have hz2 : bs.size = 1 := by rw [← hbs, ← itoa_small (n % 10) (by omega) (by omega)]; rfl
  have hr : (⟨(Lib.itoa n).toArray⟩ : ByteArray) = ds ++ bs := by
    apply str_inj
    rw [← hds, ← hbs, ByteArray.data_append]
    simp [itoa_step n h]
  rw [hr]
  simp only [hds] at D
  have hcv := conv1 (w.alloc (.cells #[.int .u8 (48 + n % 10)] 5)) w.heap.size (48 + n % 10) bs (by rw [itoa_small (n % 10) (by omega) (by omega), hbs]) (by simp)
  have hb0 := (Below.refl w.heap.size w).alloc (Nat.le_refl _) (.cells #[.int .u8 (48 + n % 10)] 5)
  clear hbs hds hr hl
  go_enter Tryd.func32, Tryd.ntmps32
  go_wp2_with fail
  refine (D _).out.mono ?_
  rintro e w2 ⟨rfl, hb⟩
  go_wp2_with fail
  go_ret
  exact ⟨rfl, hb0.trans (hb.mono hb0.size)⟩

theorem dig_any (n : Int) (w : World) (h : 0 ≤ n) (h2 : n < 1000) :
    Calls Tryd.prog 32 #[.int .i64 n] w fun e w' => e = .returned (.string ⟨(Lib.itoa n).toArray⟩) ∧ Below w.heap.size w w' := by
  rcases Int.lt_or_le n 10 with c | c
  · exact dig_1 n w h c
  · rcases Int.lt_or_le n 100 with d | d
    · exact dig_step n w c (by omega) (by have := (itoa_len (n / 10) (by omega) (by omega)).2; omega) (fun w => Lib.hid (dig_1 (n / 10) w (by omega) (by omega)))
    · exact dig_step n w c (by omega) (by have := (itoa_len (n / 10) (by omega) (by omega)).2; omega) (fun w => Lib.hid (dig_step (n / 10) w (by omega) (by omega) (by have := (itoa_len (n / 10 / 10) (by omega) (by omega)).2; omega) (fun w => Lib.hid (dig_1 (n / 10 / 10) w (by omega) (by omega)))))
end Go.Proofs.YtobcecnmeepjpaaDoor

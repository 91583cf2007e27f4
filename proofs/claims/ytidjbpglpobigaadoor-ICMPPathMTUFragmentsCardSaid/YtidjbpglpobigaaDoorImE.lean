/- Contract of icmp.write. Contracts of icmp's encoding, checksum, Encode. Contracts of icmp's checksum, Encode. -/
import Derived.Test.YtidjbpglpobigaaDoorImA
import Derived.Test.YtidjbpglpobigaaDoorIpC
import Derived.Deep.RegionHeld3
import Derived.BigRegion
import Derived.Test.YtidjbpglpobigaaDoorImX
import Derived.Test.YtidjbpglpobigaaDoorSum
namespace Go.Proofs.YtidjbpglpobigaaDoor
section
attribute [local go_sem] Oper.semAt_some
open Go.RowKit Go.Shelf Go.Maps
set_option linter.unusedVariables false

def catM (V : Fin 4 → Int) (pre : List (Fin 4)) : ByteArray := pre.foldl (fun s i => s ++ beS (mSz i) (V i)) ByteArray.empty
/-- the bytes of a message's numbers -/
def mE (V : Fin 4 → Int) : ByteArray := catM V mAll
theorem catM_snoc (V : Fin 4 → Int) (pre : List (Fin 4)) (x : Fin 4) : catM V (pre ++ [x]) = catM V pre ++ beS (mSz x) (V x) := by simp [catM]
def inM (V : Fin 4 → Int) : Prop := ∀ x, 0 ≤ V x ∧ V x < 256 ^ (mSz x).toNat
def m4 (i : Nat) : Fin 4 := if i = 0 then 0 else if i = 1 then 1 else if i = 2 then 2 else 3
theorem mSz_bd (x : Fin 4) : 1 ≤ mSz x ∧ mSz x ≤ 4 := by
  obtain rfl | rfl | rfl | rfl := fin4 x
  all_goals exact ⟨by decide, by decide⟩
theorem catM_go (V : Fin 4 → Int) : ∀ (pre : List (Fin 4)) (s : ByteArray), (pre.foldl (fun s i => s ++ beS (mSz i) (V i)) s).size ≤ s.size + 4 * pre.length
  | [], s => by simp
  | x :: pre, s => by
    have h1 := catM_go V pre (s ++ beS (mSz x) (V x))
    have h2 := mSz_bd x
    rw [ByteArray.size_append, beS_size _ _ h2.1 h2.2] at h1
    simp only [List.foldl_cons, List.length_cons]
    omega
theorem catM_size (V : Fin 4 → Int) (pre : List (Fin 4)) : (catM V pre).size ≤ 4 * pre.length := by
  have := catM_go V pre ByteArray.empty
  simpa [catM] using this
theorem take_m4 (k : Nat) (hk : k < 4) : mAll.take (k + 1) = mAll.take k ++ [m4 k] := by
  rcases (by omega : k = 0 ∨ k = 1 ∨ k = 2 ∨ k = 3) with rfl | rfl | rfl | rfl <;> rfl
theorem flat_m4 (Fb o k : Nat) (hk : k < 4) : (flatF Fb o mAll)[k * 2]? = some (.pointer (some (mAt Fb o (m4 k)))) ∧ (flatF Fb o mAll)[k * 2 + 1]? = some (.int .i64 (mSz (m4 k))) := by
  rcases (by omega : k = 0 ∨ k = 1 ∨ k = 2 ∨ k = 3) with rfl | rfl | rfl | rfl <;> exact ⟨rfl, rfl⟩

set_option maxRecDepth 100000 in
set_option maxHeartbeats 3200000 in
theorem write_any (g cap Fb o base : Nat) (V : Fin 4 → Int) (hV : inM V) (w : World) (hrow : w.ownsRow base 117 2 (.slice (some ⟨g, 0, none⟩) 4 cap) 4 (flatF Fb o mAll))
    (hval : ∀ x, w.cell? (mAt Fb o x) = some (.int .i64 (V x))) :
    Calls Tryd.prog 66 #[.slice (some ⟨g, 0, none⟩) 4 cap] w fun e w' => e = .returned (.string (mE V)) ∧ Below w.heap.size w w' := by
  have hgl : g < w.heap.size := by
    obtain ⟨_, h | ⟨g', cap', cur, e1, e2, e3, _⟩⟩ := hrow
    · cases h.1
    · cases e1; exact blk_lt e3
  have HV := Lib.hid hV
  have HR := Lib.hid hrow
  have HX := Lib.hid hval
  clear hV hrow hval
  go_enter Tryd.func66, Tryd.ntmps66
  go_wp2_with fail
  go_loopw [3, 10] (fun a i wr => ∃ k : Nat, k ≤ 4 ∧ a = .string (catM V (mAll.take k)) ∧ i = .int .i64 (k : Int) ∧ Hid (Below w.heap.size w wr)) (fun _ i _ => 4 - (intOf i).toNat)
  case atStart => exact ⟨0, Nat.zero_le _, rfl, rfl, Below.refl _ _⟩
  case round =>
    obtain ⟨k, hk, rfl, rfl, HBK⟩ := hrel
    by_cases hk4 : k < 4
    · have hki : (k : Int) < 4 := by omega
      obtain ⟨q0, q1⟩ := flat_m4 Fb o k hk4
      have c0 : wr.cell? ⟨g, k * 2, none⟩ = some (.pointer (some (mAt Fb o (m4 k)))) := by
        rw [HBK.out.cell (p := ⟨g, k * 2, none⟩) hgl, HR.out.cellAt (k * 2) (by omega)]; exact q0
      have c1 : wr.cell? ⟨g, k * 2 + 1, none⟩ = some (.int .i64 (mSz (m4 k))) := by
        rw [HBK.out.cell (p := ⟨g, k * 2 + 1, none⟩) hgl, HR.out.cellAt (k * 2 + 1) (by omega)]; exact q1
      have hx := HX.out (m4 k)
      have cx : wr.cell? (mAt Fb o (m4 k)) = some (.int .i64 (V (m4 k))) := (HBK.out.cell (cell_lt hx)).trans hx
      have hsn := catM_snoc V (mAll.take k) (m4 k)
      rw [← take_m4 k hk4] at hsn
      have hsz := catM_size V (mAll.take k)
      have hl4 : (mAll.take k).length ≤ 4 := by rw [List.length_take]; exact Nat.le_trans (Nat.min_le_right _ _) (by decide)
      obtain ⟨b1, b2⟩ := mSz_bd (m4 k)
      obtain ⟨b3, b4⟩ := HV.out (m4 k)
      have hbs := beS_size (mSz (m4 k)) (V (m4 k)) b1 b2
      have HSN := Lib.hid hsn
      clear hsn hx q0 q1
      generalize hCC : catM V (mAll.take k) = C at *
      generalize hMA : mAt Fb o (m4 k) = P at *
      generalize hVV : V (m4 k) = Z at *
      generalize hSS : mSz (m4 k) = S at *
      have f0 := (blk_cell (k := 0) (blk_new wr (.cells #[.pointer (some P), .int .i64 S] 117)) rfl).1
      have f1 := (blk_cell (k := 1) (blk_new wr (.cells #[.pointer (some P), .int .i64 S] 117)) rfl).1
      simp only [List.getElem_toArray, List.getElem_cons_zero, List.getElem_cons_succ] at f0 f1
      have fx := cell_alloc cx (.cells #[.pointer (some P), .int .i64 S] 117)
      have HB0 := Lib.hid ((HBK.out.alloc HBK.out.size (.cells #[.pointer (some P), .int .i64 S] 117)).drew)
      go_wp2_with fail
      go_region_held3 (fun w' => w'.cell? ⟨wr.heap.size, 0, none⟩ = some (.pointer (some P)) ∧ w'.cell? ⟨wr.heap.size, 1, none⟩ = some (.int .i64 S) ∧ w'.cell? P = some (.int .i64 Z) ∧ Below w.heap.size w w')
        (first | exact ⟨f0, f1, fx, HB0.out⟩ | exact ⟨keep_cell hb f0, keep_cell hb f1, keep_cell hb fx, HB0.out.trans (hb.mono HB0.out.size)⟩)
        ((go_at_call 83; refine (put_any _ _ _ b1 b2 b3 b4).mono ?_; rintro e w2 ⟨rfl, hb⟩))
      rename_i hHeld
      have hB2 := Lib.hid hHeld.2.2.2
      clear hHeld
      go_wp2
      refine ⟨⟨k + 1, by omega, ?_, ?_, hB2⟩, ?_⟩
      · rw [HSN.out]
      · rw [Int.natCast_add]; rfl
      · simp [intOf]; omega
    · obtain rfl : k = 4 := by omega
      go_wp2
      go_ret
      exact ⟨rfl, HBK.out⟩
end
section
attribute [local go_sem] Oper.semAt_some
open Go.RowKit Go.Shelf Go.Maps
set_option linter.unusedVariables false

def mV (k c n q : Int) : Fin 4 → Int
  | 0 => k
  | 1 => c
  | 2 => q
  | 3 => n
abbrev mVm (m : Ms) (q : Int) : Fin 4 → Int := mV m.k m.c m.n q
def mF (m : Ms) (q : Int) : ByteArray := mE (mVm m q) ++ m.s
theorem mE_list (V : Fin 4 → Int) : (mE V).data.toList = bL 1 (V 0) ++ (bL 1 (V 1) ++ (bL 2 (V 2) ++ bL 4 (V 3))) := by
  unfold mE catM mAll
  simp only [List.foldl_cons, List.foldl_nil, toList_append, List.append_assoc]
  rfl
theorem mE_size (V : Fin 4 → Int) : (mE V).size = 8 := by
  rw [← size_toList, mE_list]
  simp only [List.length_append, bL_len _ _ (by decide : (1 : Int) ≤ 1) (by decide : (1 : Int) ≤ 4), bL_len _ _ (by decide : (1 : Int) ≤ 2) (by decide : (2 : Int) ≤ 4), bL_len _ _ (by decide : (1 : Int) ≤ 4) (by decide : (4 : Int) ≤ 4)]
  rfl
theorem inM_mk (k c n q : Int) (h0 : 0 ≤ k ∧ k < 256) (h1 : 0 ≤ c ∧ c < 256) (h2 : 0 ≤ n ∧ n < 4294967296) (h3 : 0 ≤ q ∧ q < 65536) : inM (mV k c n q) := fun i => by
  obtain rfl | rfl | rfl | rfl := fin4 i
  · exact h0
  · exact h1
  · exact h3
  · exact h2

theorem write_row (M : Nat) (m : Ms) (q : Int) (base : Nat) (pp : Option Addr) (cc : Nat) (w : World) (hbd : inM (mVm m q)) (hM : w.heap[M]? = some (mco m q)) (hrow : w.ownsRow base 117 2 (.slice pp 4 cc) 4 (flatF M 0 mAll)) :
    Calls Tryd.prog 66 #[.slice pp 4 cc] w fun e w' => e = .returned (.string (mE (mVm m q))) ∧ Below w.heap.size w w' := by
  have h := hrow
  obtain ⟨_, h | ⟨g', cap', cur, e1, e2, e3, _⟩⟩ := h
  · cases h.1
  · cases e1
    refine write_any g' cc M 0 base _ hbd w hrow (fun x => ?_)
    obtain rfl | rfl | rfl | rfl := fin4 x
    · exact (blk_cell (k := 0) hM rfl).1
    · exact (blk_cell (k := 1) hM rfl).1
    · exact (blk_cell (k := 4) hM rfl).1
    · exact (blk_cell (k := 2) hM rfl).1
theorem fields_any (Fb o : Nat) (w : World) :
    Calls Tryd.prog 68 #[.pointer (some ⟨Fb, o, none⟩)] w fun e w' => ∃ Bm, e = .returned (.func (.func 90) #[] #[.pointer (some ⟨Bm, 0, none⟩)]) ∧
      w'.heap[Bm]? = some (.cells #[.pointer (some ⟨Fb, o, none⟩)] 148) ∧ Below w.heap.size w w' := by
  refine (callsIn_wide.1 (mfields_in Fence.wide 3 trivial rfl Fb o w)).mono ?_
  rintro e w' ⟨rfl, rfl⟩
  exact ⟨_, rfl, blk_new w _, (Below.refl _ w).alloc (Nat.le_refl _) _⟩

set_option maxRecDepth 100000 in
set_option maxHeartbeats 3200000 in
theorem mencoding_any (m : Ms) (q : Int) (w : World) (hbd : inM (mVm m q)) (hs : m.s.size ≤ 1000000000) :
    Calls Tryd.prog 37 #[mcv m q] w fun e w' => e = .returned (.string (mF m q)) ∧ Below w.heap.size w w' := by
  obtain ⟨k, c, n, s⟩ := m
  obtain ⟨E, hE⟩ : ∃ E, mE (mVm ⟨k, c, n, s⟩ q) = E := ⟨_, rfl⟩
  have hz : E.size = 8 := by rw [← hE]; exact mE_size _
  have HE := Lib.hid hE
  simp only at hs
  have hnb : (9223372036854775807 < 8 + s.size) = False := eq_false (by omega)
  have HBD := Lib.hid hbd
  have HV := Lib.hid (show mF ⟨k, c, n, s⟩ q = E ++ s from by rw [← hE]; rfl)
  clear hE
  have hM0 := blk_new w (mco ⟨k, c, n, s⟩ q)
  have c3 := (blk_cell (k := 3) hM0 rfl).1
  simp only [List.getElem_toArray, List.getElem_cons_zero, List.getElem_cons_succ] at c3
  have hb0 : Below w.heap.size w (w.alloc (mco ⟨k, c, n, s⟩ q)) := (Below.refl _ w).alloc (Nat.le_refl _) _
  clear hbd
  have hM1 : (w.alloc (mco ⟨k, c, n, s⟩ q)).drew.heap[w.heap.size]? = some (mco ⟨k, c, n, s⟩ q) := hM0
  have c31 : (w.alloc (mco ⟨k, c, n, s⟩ q)).drew.cell? ⟨w.heap.size, 3, none⟩ = some (.string s) := c3
  rw [HV.out]
  go_enter Tryd.func37, Tryd.ntmps37
  go_wp2_with fail
  go_region_held3 (fun w' => w'.heap[w.heap.size]? = some (mco ⟨k, c, n, s⟩ q) ∧ w'.cell? ⟨w.heap.size, 3, none⟩ = some (.string s) ∧ Below w.heap.size w w')
    (first | exact ⟨hM0, c3, hb0.drew⟩ | exact ⟨hMe, hce, hBe⟩ | exact ⟨hMd, hcd, hBd⟩ | exact ⟨hMc, hcc, hBc⟩)
    (first
      | (go_at_call 68; refine (fields_any _ _ _).mono ?_; rintro e w2 ⟨Bm, rfl, hXc, hbc⟩; have hMc := blk_below hM1 hbc (blk_lt hM1); have hcc := keep_cell hbc c31; have hBc := hb0.drew.trans (hbc.mono hb0.drew.size))
      | (go_at_call 67; refine (mcollect_any _ w.heap.size 0 _ hXc).mono ?_; rintro e w3 ⟨v, rfl, hrow, hbd⟩; obtain ⟨pp, cc, rfl, hpn⟩ := row_shape hrow; have hMd := blk_below hMc hbd (blk_lt hMc); have hcd := keep_cell hbd hcc; have hBd := hBc.trans (hbd.mono hBc.size))
      | (go_at_call 66; refine (write_row _ _ _ _ _ _ _ HBD.out hMd hrow).mono ?_; rintro e w4 ⟨he, hbe⟩; rw [HE.out] at he; obtain rfl := he; have hMe := blk_below hMd hbe (blk_lt hMd); have hce := keep_cell hbe hcd; have hBe := hBd.trans (hbe.mono hBd.size)))
  rename_i hHeld
  have hB6 := hHeld.2.2
  clear hHeld
  go_wp2
  go_ret
  exact ⟨rfl, hB6⟩
end
section
attribute [local go_sem] Oper.semAt_some
open Go.RowKit Go.Shelf Go.Maps
set_option linter.unusedVariables false

def ckM (m : Ms) : Nat := sumN (mF m 0).data.toList
theorem ckM_bd (m : Ms) : 0 ≤ ((ckM m : Nat) : Int) ∧ ((ckM m : Nat) : Int) < 65536 := by
  have := sumN_le (mF m 0).data.toList
  unfold ckM; omega
theorem inM_zero {k c n q : Int} (h : inM (mV k c n q)) (q' : Int) (h9 : 0 ≤ q' ∧ q' < 65536) : inM (mV k c n q') := fun i => by
  obtain rfl | rfl | rfl | rfl := fin4 i
  · exact h 0
  · exact h 1
  · exact h9
  · exact h 3
theorem mF_size (m : Ms) (q : Int) : (mF m q).size = 8 + m.s.size := by unfold mF; rw [ByteArray.size_append, mE_size]

set_option maxRecDepth 20000 in
set_option maxHeartbeats 1600000 in
theorem mchecksum_any (m : Ms) (q : Int) (w : World) (hbd : inM (mVm m q)) (hs : m.s.size ≤ 1000000000) :
    Calls Tryd.prog 36 #[mcv m q] w fun e w' => e = .returned (.int .i64 ((ckM m : Nat) : Int)) ∧ Below w.heap.size w w' := by
  have hz := inM_zero hbd 0 (by omega)
  have hsz := mF_size m 0
  have HZ := Lib.hid hz
  go_enter Tryd.func36, Tryd.ntmps36
  go_wp2_with fail
  refine (mencoding_any m 0 _ HZ.out hs).mono ?_
  rintro e w2 ⟨rfl, hb2⟩
  go_wp2_with fail
  refine (sum_any _ (by rw [hsz]; omega) _).mono ?_
  rintro e w3 ⟨rfl, hb3⟩
  go_wp2_with fail
  go_ret
  have hb0 : Below w.heap.size w (w.alloc (mco m 0)) := (Below.refl _ w).alloc (Nat.le_refl _) _
  have hb1 := hb0.trans (hb2.mono hb0.size)
  exact ⟨rfl, hb1.trans (hb3.mono hb1.size)⟩

/-- an encoding -/
def encM (m : Ms) : ByteArray := mF m (ckM m)
theorem okM_in {m : Ms} (h : okM m) (q : Int) (hq : 0 ≤ q ∧ q < 65536) : inM (mVm m q) := by
  have h1 := h.1
  unfold numK at h1
  exact inM_mk _ _ _ _ (by omega) (by omega) (by omega) hq
theorem okM_k {m : Ms} (h : okM m) : b64i m.k := by
  have h1 := h.1
  unfold numK at h1
  unfold b64i
  omega

set_option maxRecDepth 20000 in
set_option maxHeartbeats 1600000 in
theorem mencode_no (m : Ms) (hk : b64i m.k) (hs : m.s.size ≤ maxLen) (h : ¬ okM m) (w : World) :
    Calls Tryd.prog 14 #[mv m] w fun e w' => e = .returned (.tuple #[.string ⟨#[]⟩, .int .i64 80]) ∧ Below w.heap.size w w' := by
  have hd : decide (okM m) = false := decide_eq_false h
  go_enter Tryd.func14, Tryd.ntmps14
  go_wp2_with fail
  refine (mvalid_any m hk hs _).mono ?_
  rintro e w1 ⟨rfl, hb1⟩
  rw [hd]
  go_wp2
  go_ret2
  have hb0 : Below w.heap.size w (w.alloc (mo m)) := (Below.refl _ w).alloc (Nat.le_refl _) _
  exact ⟨rfl, hb0.trans (hb1.mono hb0.size)⟩

set_option maxRecDepth 100000 in
set_option maxHeartbeats 3200000 in
theorem mencode_yes (m : Ms) (h : okM m) (w : World) :
    Calls Tryd.prog 14 #[mv m] w fun e w' => e = .returned (.tuple #[.string (encM m), .int .i64 0]) ∧ Below w.heap.size w w' := by
  have hd : decide (okM m) = true := decide_eq_true h
  have hs := okM_room h
  have HI0 := Lib.hid (okM_in h 0 (by omega))
  have HIC := Lib.hid (okM_in h (ckM m) (ckM_bd m))
  have HK := okM_k h
  go_enter Tryd.func14, Tryd.ntmps14
  go_wp2_with fail
  refine (mvalid_any m HK (by unfold maxLen; omega) _).mono ?_
  rintro e w1 ⟨rfl, hb1⟩
  rw [hd]
  have hb0 : Below w.heap.size w (w.alloc (mo m)) := (Below.refl _ w).alloc (Nat.le_refl _) _
  have hB1 := hb0.trans (hb1.mono hb0.size)
  have hP1 := blk_below (blk_new w (mo m)) hb1 (by simp)
  clear hb0 hb1
  have c0 := (blk_cell (k := 0) hP1 rfl).1
  have c1 := (blk_cell (k := 1) hP1 rfl).1
  have c2 := (blk_cell (k := 2) hP1 rfl).1
  have c3 := (blk_cell (k := 3) hP1 rfl).1
  simp only [List.getElem_toArray, List.getElem_cons_zero, List.getElem_cons_succ] at c0 c1 c2 c3
  go_wp2_with fail
  refine (mchecksum_any m 0 _ HI0.out (by omega)).mono ?_
  rintro e w4 ⟨rfl, hb4⟩
  have hP3 := blk_alloc hP1 (mco m 0)
  have hH3 := blk_new w1 (mco m 0)
  have hB3 := hB1.alloc hB1.size (mco m 0)
  have hlt := hB1.size
  have hP4 := blk_below hP3 hb4 (blk_lt hP3)
  have hH4 := blk_below hH3 hb4 (blk_lt hH3)
  have hB4 := hB3.trans (hb4.mono hB3.size)
  have hPl := blk_lt hP1
  clear hb4 hP3 hH3 hB3 c0 c1 c2 c3
  obtain ⟨d0, -⟩ := blk_cell (k := 0) hH4 rfl
  obtain ⟨d1, -⟩ := blk_cell (k := 1) hH4 rfl
  obtain ⟨d2, -⟩ := blk_cell (k := 2) hH4 rfl
  obtain ⟨d3, -⟩ := blk_cell (k := 3) hH4 rfl
  obtain ⟨d4, f4⟩ := blk_cell (k := 4) hH4 rfl
  simp only [List.getElem_toArray, List.getElem_cons_zero, List.getElem_cons_succ] at d0 d1 d2 d3 d4
  have hB5 := Lib.hid (hB4.setCell (p := ⟨w1.heap.size, 4, none⟩) hlt (.int .i64 ((ckM m : Nat) : Int)))
  clear hB4
  go_wp2_with fail
  refine (mencoding_any m (ckM m) _ HIC.out (by omega)).mono ?_
  rintro e w6 ⟨rfl, hb6⟩
  go_wp2
  go_ret2
  exact ⟨rfl, hB5.out.trans (hb6.mono hB5.out.size)⟩
end
end Go.Proofs.YtidjbpglpobigaaDoor

/- Decode over encodings; the statements' own sane. -/
import Derived.Test.YtgfldbllokbnaaaDoorLkMath
import Derived.Test.YtgfldbllokbnaaaDoorLkDec
import Derived.Test.YtgfldbllokbnaaaDoorLkEnc
namespace Go.Proofs.YtgfldbllokbnaaaDoor
open Go.RowKit
attribute [local go_sem] Oper.semAt_some

theorem decode_enc (a b c : Int) (s : ByteArray) (w : World) (ea : Addr) (E : Env w ea) (h : okF a b c s.size) :
    Calls Tryd.prog 13 #[.string (encS a b c s)] w fun e w' => e = .returned (.tuple #[fv a b c s, .int .i64 0]) ∧ Below w.heap.size w w' := by
  obtain ⟨p1, p2, p3, p4, p5, p6, p7⟩ := enc_parts a b c s h
  have hz := enc_size a b c s
  have hle : s.size ≤ 1024 := h.2.2.2.2.2
  have := decode_ok (encS a b c s) w ea E (by unfold maxLen; omega) (dec_enc a b c s h)
  rw [p1, p2, p3, hz, show 11 + s.size - 4 = 7 + s.size by omega, p7] at this
  exact this

theorem sane_8 : (encS 65535 2 1 ⟨#[97]⟩).extract 0 8 = ⟨#[255, 255, 0, 2, 1, 0, 1, 97]⟩ := by
  have hb : bodyS 65535 2 1 ⟨#[97]⟩ = ⟨#[255, 255, 0, 2, 1, 0, 1, 97]⟩ := by decide +kernel
  refine ba_ext ?_
  unfold encS
  rw [extract_list, toList_append, hb, List.drop_zero]
  exact List.take_left' rfl

set_option maxRecDepth 100000 in
set_option maxHeartbeats 1600000 in
theorem sane_any (w : World) (ea : Addr) (E : Env w ea) :
    Calls Tryd.prog 10 #[] w fun e w' => e = .returned (.bool true) ∧ Below w.heap.size w w' := by
  have hok : okF 65535 2 1 (⟨#[97]⟩ : ByteArray).size := by decide
  have hz := enc_size 65535 2 1 ⟨#[97]⟩
  have h8 := sane_8
  have hd := dec_enc 65535 2 1 ⟨#[97]⟩ hok
  have hde := fun (w : World) (E : Env w ea) => decode_enc 65535 2 1 ⟨#[97]⟩ w ea E hok
  go_enter Tryd.func10, Tryd.ntmps10
  go_wp2_with fail
  refine (encode_yes 65535 2 1 ⟨#[97]⟩ _ hok).mono ?_
  rintro e w1 ⟨rfl, hb1⟩
  revert hz h8 hd hde
  generalize encS 65535 2 1 ⟨#[97]⟩ = S
  intro hz h8 hd hde
  have hz : S.size = 12 := hz
  have hB1 : Below w.heap.size w w1 := ((Below.refl _ w).alloc (Nat.le_refl _) _).trans (hb1.mono (by simp))
  have hf1 := blk_below (blk_new w (fo 65535 2 1 ⟨#[97]⟩)) hb1 (by simp)
  have E1 := E.stay hB1
  have Hde := Lib.hid hde
  have Hd := Lib.hid hd
  clear hd hde hb1
  go_wp2_with fail
  refine (Hde.out _ E1).mono ?_
  rintro e w2 ⟨rfl, hb2⟩
  have hB2 := hB1.trans (hb2.mono hB1.size)
  have hf2 := blk_below hf1 hb2 (blk_lt hf1)
  have E2 := E1.stay hb2
  have hdn : ¬ decC (S ++ ⟨#[97]⟩) := dec_len S (S ++ ⟨#[97]⟩) Hd.out 12 (by rw [toList_append, List.take_append_of_le_length (by rw [size_toList]; omega)]) (by rw [ByteArray.size_append, hz]; decide) (.inr hz.symm)
  have E3 : Env (w2.alloc (fo 65535 2 1 ⟨#[97]⟩)) ea := cell_alloc E2 _
  clear hb2
  go_wp2_with fail
  refine (decode_no _ _ ea E3 (by rw [ByteArray.size_append, hz]; decide) hdn).mono ?_
  rintro e w3 ⟨rfl, hb3⟩
  have hB3 := hB2.trans (((Below.refl _ w2).alloc (Nat.le_refl _) (fo 65535 2 1 ⟨#[97]⟩)).trans (hb3.mono (by simp)) |>.mono hB2.size)
  have hf3 := blk_below (blk_alloc hf2 _) hb3 (blk_lt (blk_alloc hf2 _))
  have hg3 := blk_below (blk_new w2 (fo 65535 2 1 ⟨#[97]⟩)) hb3 (by simp)
  clear hb3 hdn
  go_wp2_with fail
  refine (encode_no 0 0 0 ⟨#[]⟩ _ (by decide)).mono ?_
  rintro e w4 ⟨rfl, hb4⟩
  have hB4 := hB3.trans (((Below.refl _ w3).alloc (Nat.le_refl _) (fo 0 0 0 ⟨#[]⟩)).trans (hb4.mono (by simp)) |>.mono hB3.size)
  have hf4 := blk_below (blk_alloc hf3 _) hb4 (blk_lt (blk_alloc hf3 _))
  have hg4 := blk_below (blk_alloc hg3 _) hb4 (blk_lt (blk_alloc hg3 _))
  clear hb4 hf3 hg3 hf2 hf1
  have a0 := (blk_cell (k := 0) hf4 rfl).1
  have a1 := (blk_cell (k := 1) hf4 rfl).1
  have a2 := (blk_cell (k := 2) hf4 rfl).1
  have a3 := (blk_cell (k := 3) hf4 rfl).1
  have b0 := (blk_cell (k := 0) hg4 rfl).1
  have b1 := (blk_cell (k := 1) hg4 rfl).1
  have b2 := (blk_cell (k := 2) hg4 rfl).1
  have b3 := (blk_cell (k := 3) hg4 rfl).1
  simp only [List.getElem_toArray, List.getElem_cons_zero, List.getElem_cons_succ] at a0 a1 a2 a3 b0 b1 b2 b3
  go_wp2_with fail
  refine (valid_any _ _ _ _ _).mono ?_
  rintro e5 w5 ⟨rfl, hw5⟩
  have hB5 : Below w.heap.size w w5 := by rw [hw5]; exact hB4.alloc hB4.size _
  have hf5 := (congrArg (fun W : World => W.heap[w.heap.size]?) hw5).trans (blk_alloc hf4 _)
  (try simp only at hf5)
  clear hw5 a0 a1 a2 a3
  have a0 := (blk_cell (k := 0) hf5 rfl).1
  have a1 := (blk_cell (k := 1) hf5 rfl).1
  have a2 := (blk_cell (k := 2) hf5 rfl).1
  have a3 := (blk_cell (k := 3) hf5 rfl).1
  simp only [List.getElem_toArray, List.getElem_cons_zero, List.getElem_cons_succ] at a0 a1 a2 a3
  rw [show decide (okF 65535 2 1 (⟨#[97]⟩ : ByteArray).size) = true by decide]
  go_wp2_with fail
  refine (valid_any _ _ _ _ _).mono ?_
  rintro e6 w6 ⟨rfl, hw6⟩
  have hB6 : Below w.heap.size w w6 := by rw [hw6]; exact hB5.alloc hB5.size _
  have hf6 := (congrArg (fun W : World => W.heap[w.heap.size]?) hw6).trans (blk_alloc hf5 _)
  (try simp only at hf6)
  clear hw6 a0 a1 a2 a3
  have a0 := (blk_cell (k := 0) hf6 rfl).1
  have a1 := (blk_cell (k := 1) hf6 rfl).1
  have a2 := (blk_cell (k := 2) hf6 rfl).1
  have a3 := (blk_cell (k := 3) hf6 rfl).1
  simp only [List.getElem_toArray, List.getElem_cons_zero, List.getElem_cons_succ] at a0 a1 a2 a3
  rw [show decide (okF 0 0 0 (⟨#[]⟩ : ByteArray).size) = false by decide]
  go_wp2_with fail
  refine (to_any _ _ _ _ _ _).mono ?_
  rintro e7 w7 ⟨rfl, hw7⟩
  have hB7 : Below w.heap.size w w7 := by rw [hw7]; exact hB6.alloc hB6.size _
  have hf7 := (congrArg (fun W : World => W.heap[w.heap.size]?) hw7).trans (blk_alloc hf6 _)
  (try simp only at hf7)
  clear hw7 a0 a1 a2 a3
  have a0 := (blk_cell (k := 0) hf7 rfl).1
  have a1 := (blk_cell (k := 1) hf7 rfl).1
  have a2 := (blk_cell (k := 2) hf7 rfl).1
  have a3 := (blk_cell (k := 3) hf7 rfl).1
  simp only [List.getElem_toArray, List.getElem_cons_zero, List.getElem_cons_succ] at a0 a1 a2 a3
  rw [show toB 65535 2 3 = true by decide]
  go_wp2_with fail
  refine (to_any _ _ _ _ _ _).mono ?_
  rintro e8 w8 ⟨rfl, hw8⟩
  have hB8 : Below w.heap.size w w8 := by rw [hw8]; exact hB7.alloc hB7.size _
  have hf8 := (congrArg (fun W : World => W.heap[w.heap.size]?) hw8).trans (blk_alloc hf7 _)
  (try simp only at hf8)
  clear hw8 a0 a1 a2 a3
  have a0 := (blk_cell (k := 0) hf8 rfl).1
  have a1 := (blk_cell (k := 1) hf8 rfl).1
  have a2 := (blk_cell (k := 2) hf8 rfl).1
  have a3 := (blk_cell (k := 3) hf8 rfl).1
  simp only [List.getElem_toArray, List.getElem_cons_zero, List.getElem_cons_succ] at a0 a1 a2 a3
  rw [show toB 65535 2 2 = false by decide]
  go_wp2
  go_ret
  exact ⟨rfl, hB8⟩
end Go.Proofs.YtgfldbllokbnaaaDoor

/- Contract of the statements' Payload: as many bytes as asked for. -/
import Derived.Test.YtidjbpglpobigaaDoorIpM
import Derived.Test.YtidjbpglpobigaaDoorPick
import Derived.Lib.ConvBytes
import Derived.Deep.OwnRows
import Derived.BigRegion
namespace Go.Proofs.YtidjbpglpobigaaDoor
open Go.RowKit
set_option linter.unusedVariables false
attribute [local go_sem] Oper.semAt_some

/-- block g holds the bytes l from its head on; they may be written -/
def BytesAt (w : World) (g : Nat) (l : List UInt8) : Prop := ∀ j (h : j < l.length), w.cell? ⟨g, j, none⟩ = some (.int .u8 (l[j].toNat : Int)) ∧ w.frozen? ⟨g, j, none⟩ = false
theorem BytesAt.keep {w w' : World} {g : Nat} {l : List UInt8} (h : BytesAt w g l) (hg : g < w.heap.size) (hb : Below w.heap.size w w') : BytesAt w' g l := fun j hj => by
  obtain ⟨h1, h2⟩ := h j hj
  exact ⟨by rw [hb.cell (p := ⟨g, j, none⟩) hg]; exact h1, by rw [hb.frozen (p := ⟨g, j, none⟩) hg]; exact h2⟩
theorem BytesAt.set {w : World} {g : Nat} {l : List UInt8} (h : BytesAt w g l) (i : Nat) (_hi : i < l.length) (x : UInt8) : BytesAt (w.setCell ⟨g, i, none⟩ (.int .u8 (x.toNat : Int))) g (l.set i x) := fun j hj => by
  have hj' : j < l.length := by simpa using hj
  obtain ⟨h1, h2⟩ := h j hj'
  refine ⟨?_, by rw [World.frozen?_setCell]; exact h2⟩
  by_cases e : i = j
  · subst e
    rw [World.cell?_setCell_same' _ _ _ (by rw [h1]; rfl)]; simp
  · rw [World.cell?_setCell_other w _ _ _ (fun e' => e (by injection e')), h1, List.getElem_set_ne e]
theorem BytesAt.drew {w : World} {g : Nat} {l : List UInt8} (h : BytesAt w g l) : BytesAt w.drew g l := h

theorem strOfNums_bytes (l : List UInt8) : strOfNums (l.map fun x => (x.toNat : Int)) = ⟨l.toArray⟩ := by
  apply ba_ext
  rw [strOfNums_data, List.map_map]
  exact (List.map_congr_left (g := id) fun x _ => by simp).trans (List.map_id l)
/-- string(b) of such bytes -/
theorem from_bytes {w : World} {g cap : Nat} {l : List UInt8} (h : BytesAt w g l) (n : Nat) (hn : n = l.length) :
    (convert 47 9 (.slice (some ⟨g, 0, none⟩) n cap)).run Tryd.prog w = .ok (.string ⟨l.toArray⟩) w := by
  have := run_convert_bytes_arg (P := Tryd.prog) w 47 5 Tryd.underlying47 Tryd.underlying5 g 0 n cap (l.map fun x => (x.toNat : Int)) (by rw [List.length_map, hn]) (fun i hi => by
    rw [Nat.zero_add, (h i (by omega)).1]
    rw [List.getD_eq_getElem?_getD, List.getElem?_map, List.getElem?_eq_getElem (by omega)]; rfl) 9 Tryd.underlying9
  rw [strOfNums_bytes] at this
  exact this

theorem made_bytes (w : World) (n : Nat) : BytesAt (w.alloc (.cells (madeCells #[.int .u8 0] n) 5)) w.heap.size (List.replicate n (0 : UInt8)) := fun j hj => by
  have hj' : j < n := by simpa using hj
  refine ⟨?_, World.frozen?_alloc_new _ _ _ _⟩
  rw [World.cell?_alloc_new, List.getElem_replicate]
  simp [madeCells, hj', Nat.mod_one]


theorem infoU8 : (Tryd.prog.info? 5).map (fun i => (i.zero, i.size, i.bytes)) = some (some (.int .u8 0), 1, 1) := by kernel_rfl
theorem u8_of (n : Int) : ∃ x : UInt8, (IntKind.u8.wrap n) = (x.toNat : Int) := ⟨UInt8.ofNat (n % 256).toNat, by
  rw [IntKind.wrap_u8, UInt8.toNat_ofNat']; omega⟩

theorem u8_mod (n : Int) : ∃ x : UInt8, n % 256 = (x.toNat : Int) := ⟨UInt8.ofNat (n % 256).toNat, by
  rw [UInt8.toNat_ofNat']; omega⟩

set_option maxRecDepth 20000 in
set_option maxHeartbeats 3200000 in
theorem payload_any (s : ByteArray) (n : Nat) (hs : s.size ≤ maxLen) (hn : n ≤ 10000) (w : World) :
    Calls Tryd.prog 49 #[.string s, .int .i64 (n : Int)] w fun e w' => (∃ t : ByteArray, e = .returned (.string t) ∧ t.size = n) ∧ Below w.heap.size w w' := by
  have hmk := fun w => run_make_row' (P := Tryd.prog) 47 5 (.int .u8 0) 1 Tryd.underlying47 infoU8 rfl .i64 .i64 n (by omega) (by omega) w
  have hb0 : Below w.heap.size w (w.alloc (.cells (madeCells #[.int .u8 0] n) 5)) := (Below.refl _ w).alloc (Nat.le_refl _) _
  have hm := made_bytes w n
  unfold maxLen at hs
  go_enter Tryd.func49, Tryd.ntmps49
  go_wp2
  clear hmk
  go_loopw [6] (fun i wr => ∃ (k : Nat) (l : List UInt8), k ≤ n ∧ i = .int .i64 k ∧ l.length = n ∧ BytesAt wr w.heap.size l ∧ Below w.heap.size w wr ∧ w.heap.size < wr.heap.size) (fun i _ => n - (intOf i).toNat)
  case atStart => exact ⟨0, _, Nat.zero_le _, rfl, by simp, hm, hb0, by simp⟩
  case round =>
    obtain ⟨k, l, hk, rfl, hl, hB, hb, hlt⟩ := hrel
    by_cases hkn : k < n
    · obtain ⟨c, hf⟩ := hB k (by omega)
      obtain ⟨x, hx⟩ := u8_of (k : Int)
      by_cases hs0 : s.size = 0
      · have h0 : ((0 : Int) < (s.size : Int)) = False := eq_false (by omega)
        go_wp2
        refine ⟨⟨k + 1, l.set k x, by omega, by go_num, by simpa using hl, hB.set k (by omega) x, hb.setCell (p := ⟨w.heap.size, k, none⟩) (Nat.le_refl _) _, by simpa using hlt⟩, ?_⟩
        simp [intOf]; omega
      · have h0 : ((0 : Int) < (s.size : Int)) = True := eq_true (by omega)
        have hml : k % s.size < s.size := Nat.mod_lt _ (by omega)
        have hm1 : (k : Int) % (s.size : Int) = ((k % s.size : Nat) : Int) := by simp
        have hm2 : (k : Int) / (s.size : Int) = ((k / s.size : Nat) : Int) := by simp
        have hm1t : (k : Int).tmod (s.size : Int) = ((k % s.size : Nat) : Int) := by rw [Int.tmod_eq_emod_of_nonneg (by omega)]; exact hm1
        have hm2t : (k : Int).tdiv (s.size : Int) = ((k / s.size : Nat) : Int) := by rw [Int.tdiv_eq_ediv_of_nonneg (by omega)]; exact hm2
        have hB1 := hB.set k (by omega) x
        obtain ⟨c1, hf1⟩ := hB1 k (by simpa using (by omega : k < l.length))
        have hb1 := hb.setCell (p := ⟨w.heap.size, k, none⟩) (Nat.le_refl _) (.int .u8 (x.toNat : Int))
        have hlt1 : w.heap.size < (wr.setCell ⟨w.heap.size, k, none⟩ (.int .u8 (x.toNat : Int))).heap.size := by simpa using hlt
        go_wp2
        clear c hf hB hb hlt hx hb0 hm
        generalize wr.setCell ⟨w.heap.size, k, none⟩ (.int .u8 (x.toNat : Int)) = wr1 at *
        obtain ⟨m, hme⟩ : ∃ m, k % s.size = m := ⟨_, rfl⟩
        obtain ⟨q, hqe⟩ : ∃ q, k / s.size = q := ⟨_, rfl⟩
        rw [hme] at hm1 hm1t hml
        rw [hqe] at hm2 hm2t
        clear hme hqe
        -- REGION
        refine wp_region_noPanic ?_
        refine wp_region_held_drew (S := fun _ => True) (by kernel_rfl) trivial (fun hHeld => ?_)
        obtain ⟨wr2, hWe⟩ : ∃ wr2, wr1.drew = wr2 := ⟨_, rfl⟩
        have hB2 : BytesAt wr2 w.heap.size (l.set k x) := by rw [← hWe]; exact hB1.drew
        have hb2 : Below w.heap.size w wr2 := by rw [← hWe]; exact hb1.drew
        have hlt2 : w.heap.size < wr2.heap.size := by rw [← hWe]; exact hlt1
        obtain ⟨c2, hf2⟩ := hB2 k (by simpa using (by omega : k < l.length))
        rw [hWe]
        clear hWe c1 hf1 hB1 hb1 hlt1
        refine wpAnyH_take (i := 0) (oi := ⟨some 22, _, _, _, _, _⟩) (v := ?va0) rfl (by kernel_rfl) (by kernel_rfl) (by kernel_rfl) (fun _ _ _ h => h) (Or.inl ⟨by rfl, ?hya0⟩) hHeld ?rra0
        case hya0 => (intro w hSw; (try dsimp only at hSw); go_simp; try with_reducible rfl)
        try simp only [Act.put, List.setIfInBounds_toArray, List.set_cons_zero, List.set_cons_succ]
        refine wpAnyH_take (i := 1) (oi := ⟨some 23, _, _, _, _, _⟩) (v := ?va1) rfl (by kernel_rfl) (by kernel_rfl) (by kernel_rfl) (fun _ _ _ h => h) (Or.inl ⟨by rfl, ?hya1⟩) hHeld ?rra1
        case hya1 => (intro w hSw; (try dsimp only at hSw); go_simp; try with_reducible rfl)
        try simp only [Act.put, List.setIfInBounds_toArray, List.set_cons_zero, List.set_cons_succ]
        refine wpAnyH_take (i := 2) (oi := ⟨some 24, _, _, _, _, _⟩) (v := ?va2) rfl (by kernel_rfl) (by kernel_rfl) (by kernel_rfl) (fun _ _ _ h => h) (Or.inl ⟨by rfl, ?hya2⟩) hHeld ?rra2
        case hya2 => (intro w hSw; (try dsimp only at hSw); go_simp; try with_reducible rfl)
        try simp only [Act.put, List.setIfInBounds_toArray, List.set_cons_zero, List.set_cons_succ]
        refine wpAnyH_take (i := 3) (oi := ⟨some 25, _, _, _, _, _⟩) (v := ?va3) rfl (by kernel_rfl) (by kernel_rfl) (by kernel_rfl) (fun _ _ _ h => h) (Or.inl ⟨by rfl, ?hya3⟩) hHeld ?rra3
        case hya3 => (intro w hSw; (try dsimp only at hSw); go_simp; try with_reducible rfl)
        try simp only [Act.put, List.setIfInBounds_toArray, List.set_cons_zero, List.set_cons_succ]
        refine wpAnyH_take (i := 4) (oi := ⟨some 26, _, _, _, _, _⟩) (v := ?va4) rfl (by kernel_rfl) (by kernel_rfl) (by kernel_rfl) (fun _ _ _ h => h) (Or.inl ⟨by rfl, ?hya4⟩) hHeld ?rra4
        case hya4 => (intro w hSw; (try dsimp only at hSw); go_simp; try with_reducible rfl)
        try simp only [Act.put, List.setIfInBounds_toArray, List.set_cons_zero, List.set_cons_succ]
        refine wpAnyH_take (i := 5) (oi := ⟨some 27, _, _, _, _, _⟩) (v := ?va5) rfl (by kernel_rfl) (by kernel_rfl) (by kernel_rfl) (fun _ _ _ h => h) (Or.inl ⟨by rfl, ?hya5⟩) hHeld ?rra5
        case hya5 => (intro w hSw; (try dsimp only at hSw); go_simp; try with_reducible rfl)
        try simp only [Act.put, List.setIfInBounds_toArray, List.set_cons_zero, List.set_cons_succ]
        refine wpAnyH_take (i := 6) (oi := ⟨some 28, _, _, _, _, _⟩) (v := ?va6) rfl (by kernel_rfl) (by kernel_rfl) (by kernel_rfl) (fun _ _ _ h => h) (Or.inl ⟨by rfl, ?hya6⟩) hHeld ?rra6
        case hya6 => (intro w hSw; (try dsimp only at hSw); go_simp; try with_reducible rfl)
        try simp only [Act.put, List.setIfInBounds_toArray, List.set_cons_zero, List.set_cons_succ]
        refine wpAnyH_take (i := 7) (oi := ⟨some 29, _, _, _, _, _⟩) (v := ?va7) rfl (by kernel_rfl) (by kernel_rfl) (by kernel_rfl) (fun _ _ _ h => h) (Or.inl ⟨by rfl, ?hya7⟩) hHeld ?rra7
        case hya7 => (intro w hSw; (try dsimp only at hSw); go_simp; try with_reducible rfl)
        try simp only [Act.put, List.setIfInBounds_toArray, List.set_cons_zero, List.set_cons_succ]
        refine wpAnyH_take (i := 8) (oi := ⟨some 30, _, _, _, _, _⟩) (v := ?va8) rfl (by kernel_rfl) (by kernel_rfl) (by kernel_rfl) (fun _ _ _ h => h) (Or.inl ⟨by rfl, ?hya8⟩) hHeld ?rra8
        case hya8 => (intro w hSw; (try dsimp only at hSw); go_simp; try with_reducible rfl)
        try simp only [Act.put, List.setIfInBounds_toArray, List.set_cons_zero, List.set_cons_succ]
        refine wpAnyH_take (i := 9) (oi := ⟨some 31, _, _, _, _, _⟩) (v := ?va9) rfl (by kernel_rfl) (by kernel_rfl) (by kernel_rfl) (fun _ _ _ h => h) (Or.inl ⟨by rfl, ?hya9⟩) hHeld ?rra9
        case hya9 => (intro w hSw; (try dsimp only at hSw); go_simp; try with_reducible rfl)
        try simp only [Act.put, List.setIfInBounds_toArray, List.set_cons_zero, List.set_cons_succ]
        refine wpAnyH_take (i := 10) (oi := ⟨some 32, _, _, _, _, _⟩) (v := ?va10) rfl (by kernel_rfl) (by kernel_rfl) (by kernel_rfl) (fun _ _ _ h => h) (Or.inl ⟨by rfl, ?hya10⟩) hHeld ?rra10
        case hya10 => (intro w hSw; (try dsimp only at hSw); go_simp; try with_reducible rfl)
        try simp only [Act.put, List.setIfInBounds_toArray, List.set_cons_zero, List.set_cons_succ]
        refine wpAnyH_take (i := 11) (oi := ⟨some 33, _, _, _, _, _⟩) (v := ?va11) rfl (by kernel_rfl) (by kernel_rfl) (by kernel_rfl) (fun _ _ _ h => h) (Or.inl ⟨by rfl, ?hya11⟩) hHeld ?rra11
        case hya11 => (intro w hSw; (try dsimp only at hSw); go_simp; try with_reducible rfl)
        try simp only [Act.put, List.setIfInBounds_toArray, List.set_cons_zero, List.set_cons_succ]
        refine wpAnyH_take (i := 12) (oi := ⟨some 34, _, _, _, _, _⟩) (v := ?va12) rfl (by kernel_rfl) (by kernel_rfl) (by kernel_rfl) (fun _ _ _ h => h) (Or.inl ⟨by rfl, ?hya12⟩) hHeld ?rra12
        case hya12 => (intro w hSw; (try dsimp only at hSw); go_simp; try with_reducible rfl)
        try simp only [Act.put, List.setIfInBounds_toArray, List.set_cons_zero, List.set_cons_succ]
        refine wpAnyH_take (i := 13) (oi := ⟨some 35, _, _, _, _, _⟩) (v := ?va13) rfl (by kernel_rfl) (by kernel_rfl) (by kernel_rfl) (fun _ _ _ h => h) (Or.inl ⟨by rfl, ?hya13⟩) hHeld ?rra13
        case hya13 => (intro w hSw; (try dsimp only at hSw); go_simp; try with_reducible rfl)
        try simp only [Act.put, List.setIfInBounds_toArray, List.set_cons_zero, List.set_cons_succ]
        refine wpAnyH_take (i := 14) (oi := ⟨some 36, _, _, _, _, _⟩) (v := ?va14) rfl (by kernel_rfl) (by kernel_rfl) (by kernel_rfl) (fun _ _ _ h => h) (Or.inl ⟨by rfl, ?hya14⟩) hHeld ?rra14
        case hya14 => (intro w hSw; (try dsimp only at hSw); go_simp; try with_reducible rfl)
        try simp only [Act.put, List.setIfInBounds_toArray, List.set_cons_zero, List.set_cons_succ]
        refine wpAnyH_ready (rs := [15]) (by kernel_rfl) (by simp) ?_
        refine AllReadyH.cons (o := ⟨none, _, _, _, _, _⟩) rfl (fun K hK => ?_) AllReadyH.nil
        go_simp
        refine hK.out _ _ (trivial) (fun hHeld2 => ?_)
        clear hK K hHeld
        have hHeld := hHeld2
        clear hHeld2
        try simp only [Act.put, List.setIfInBounds_toArray, List.set_cons_zero, List.set_cons_succ]
        refine wpAnyH_done (by kernel_rfl) ?_ _
        refine NoPanic.normal ?_
        obtain ⟨y, hy⟩ := u8_of ((s[m].toNat : Int) + IntKind.u8.wrap (IntKind.i64.wrap (q : Int)))
        rw [hy]
        go_wp2
        refine ⟨⟨k + 1, (l.set k x).set k y, by omega, by go_num, by simpa using hl, hB2.set k (by simpa using (by omega : k < l.length)) y, hb2.setCell (p := ⟨w.heap.size, k, none⟩) (Nat.le_refl _) _, by simpa using hlt2⟩, ?_⟩
        simp [intOf]; omega
    · obtain rfl : k = n := by omega
      have hfb := from_bytes (cap := k) hB k (by omega)
      go_wp2
      go_ret
      exact ⟨⟨_, rfl, hl⟩, hb⟩
end Go.Proofs.YtidjbpglpobigaaDoor

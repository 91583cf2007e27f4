/- Contract of (ip.header).encoding. -/
import Derived.Test.YtidjbpglpobigaaDoorIpF
import Derived.Test.YtidjbpglpobigaaDoorPut
import Derived.Deep.AppendLies
import Derived.Maps.Range
namespace Go.Proofs.YtidjbpglpobigaaDoor
open Go.RowKit Go.Shelf
attribute [local go_sem] Oper.semAt_some

def fV (p : Pk) (v f u l c : Int) : Fin 10 → Int
  | 0 => v
  | 1 => p.fr
  | 2 => p.to
  | 3 => p.pr
  | 4 => p.tt
  | 5 => p.id
  | 6 => f
  | 7 => u
  | 8 => l
  | 9 => c
def catF (V : Fin 10 → Int) (pre : List (Fin 10)) : ByteArray := pre.foldl (fun s i => s ++ beS (fSz i) (V i)) ByteArray.empty
/-- a header's bytes -/
def hE (V : Fin 10 → Int) : ByteArray := catF V fAll
theorem catF_snoc (V : Fin 10 → Int) (pre : List (Fin 10)) (x : Fin 10) : catF V (pre ++ [x]) = catF V pre ++ beS (fSz x) (V x) := by simp [catF]
theorem fSz_bd (x : Fin 10) : 1 ≤ fSz x ∧ fSz x ≤ 4 := by
  obtain rfl | rfl | rfl | rfl | rfl | rfl | rfl | rfl | rfl | rfl := fin10 x
  all_goals exact ⟨by decide, by decide⟩
theorem catF_go (V : Fin 10 → Int) : ∀ (pre : List (Fin 10)) (s : ByteArray), (pre.foldl (fun s i => s ++ beS (fSz i) (V i)) s).size ≤ s.size + 4 * pre.length
  | [], s => by simp
  | x :: pre, s => by
    have h1 := catF_go V pre (s ++ beS (fSz x) (V x))
    have h2 := fSz_bd x
    rw [ByteArray.size_append, beS_size _ _ h2.1 h2.2] at h1
    simp only [List.foldl_cons, List.length_cons]
    omega
theorem catF_size (V : Fin 10 → Int) (pre : List (Fin 10)) : (catF V pre).size ≤ 4 * pre.length := by
  have := catF_go V pre ByteArray.empty
  simpa [catF] using this
def inR (V : Fin 10 → Int) : Prop := ∀ x, 0 ≤ V x ∧ V x < 256 ^ (fSz x).toNat

set_option maxRecDepth 100000 in
set_option maxHeartbeats 3000000 in
theorem encoding_in (p : Pk) (v f u l c : Int) (w : World) (hbd : inR (fV p v f u l c)) :
    CallsIn Fence.wide 3 Tryd.prog 56 #[hv p v f u l c] w fun e w' => e = .returned (.string (hE (fV p v f u l c))) ∧ Below w.heap.size w w' := by
  have hro : Fence.wide.round = none := rfl
  have h1 : 1 ≤ 3 := by decide
  have HBD := Lib.hid hbd
  obtain ⟨V, hV⟩ : ∃ V, fV p v f u l c = V := ⟨_, rfl⟩
  refine callsIn_of_wp_marks Tryd.func56 rfl trivial ?_ hro
  simp only [Tryd.ntmps56, List.size_toArray, List.length_cons, List.length_nil, Nat.reduceAdd, Nat.reduceSub, Array.replicate_succ, Array.replicate_zero, List.push_toArray, List.append_toArray, List.nil_append, List.cons_append]
  gi_wp2
  refine ⟨trivial, ?_⟩
  refine (fields_in Fence.wide _ trivial hro _ 0 _).mono ?_
  rintro e w5 ⟨rfl, hw5⟩
  have hF5 : w5.heap[w.heap.size]? = some (ho p v f u l c) := by rw [hw5]; exact blk_alloc (blk_alloc (blk_new w _) _) _
  have hO5 : w5.heap[w.heap.size + 1]? = some (.cells #[.string ⟨#[]⟩] 9) := by
    rw [hw5]; have := blk_alloc (blk_new (w.alloc (ho p v f u l c)) (.cells #[.string ⟨#[]⟩] 9)) (.cells #[.pointer (some ⟨w.heap.size, 0, none⟩)] 163)
    simp only [World.size_alloc] at this; exact this
  have hP5 : w5.heap[w.heap.size + 1 + 1]? = some (.cells #[.pointer (some ⟨w.heap.size, 0, none⟩)] 163) := by
    rw [hw5]; have := blk_new ((w.alloc (ho p v f u l c)).alloc (.cells #[.string ⟨#[]⟩] 9)) (.cells #[.pointer (some ⟨w.heap.size, 0, none⟩)] 163)
    simp only [World.size_alloc] at this; exact this
  have hs5 : w5.heap.size = w.heap.size + 3 := by rw [hw5]; simp
  have hB5 : Below w.heap.size w w5 := by rw [hw5]; exact (((Below.refl _ w).alloc (Nat.le_refl _) _).alloc (by simp) _).alloc (by simp; omega) _
  clear hw5
  gi_wp2
  refine wpIn_rangeFunc_ownF hro h1 (gf := 97) (lb := #[.pointer (some ⟨w.heap.size + 1 + 1, 0, none⟩)]) rfl trivial (enters_of Tryd.func97 (by kernel_rfl) rfl)
    (fields_stops Fence.wide _ trivial hro (by decide) (w.heap.size + 1 + 1) w.heap.size 0 w5 (by omega) (blk_cell hP5 rfl).1)
    (fun h k => k.trans h)
    (fun W l o o' hl h _ _ => World.putObj_heap_other (by omega)) (Below.refl _ _) (fun _ => rfl)
    (fun pre W => ((W.heap[w.heap.size]? = some (ho p v f u l c) ∧ W.heap[w.heap.size + 1 + 1]? = some (.cells #[.pointer (some ⟨w.heap.size, 0, none⟩)] 163 (0, 0))) ∧
      W.heap[w.heap.size + 1]? = some (.cells #[.string (catF V pre)] 9 (0, 0))) ∧ Below w.heap.size w W)
    (fun _ _ _ => False)
    (OwnFrom.and (OwnFrom.and (OwnFrom.and (Own.from (cells_own _ (fun _ => _) _) _) (Own.from (cells_own _ (fun _ => _) _) _))
      (Own.from (cells_own _ (fun pre => #[.string (catF V pre)]) _) _)) (ownFrom_below (Nat.le_refl _) (by omega)))
    (fun _ _ _ _ _ hs _ _ => hs)
    ⟨⟨⟨hF5, hP5⟩, hO5⟩, hB5⟩
    (fun x => { tmps := #[hv p v f u l c, .pointer (some ⟨w.heap.size, 0, none⟩), .string ⟨#[]⟩, .pointer (some ⟨w.heap.size + 1, 0, none⟩),
      .pointer (some (fAt w.heap.size 0 x)), .int .i64 (fSz x), undef, undef,
      .func (.func 97) #[] #[.pointer (some ⟨w.heap.size + 1 + 1, 0, none⟩)],
      .pointer (some (fAt w.heap.size 0 x)), .int .i64 (fSz x), undef, undef, undef, undef, undef, undef, undef, undef, undef, undef, undef, undef], defers := [] }) ?assign ?body ?done ?stop
  case assign =>
    intro l x W K hK
    unfold fenc
    gi_wp2
    exact hK
  case body =>
    rintro l' pre x W ⟨⟨⟨hF, hP⟩, hO⟩, hB⟩ hlt
    have hc := blk_cell (k := 0) hO rfl
    obtain ⟨hc1, hc2⟩ := hc
    simp only [List.getElem_toArray, List.getElem_cons_zero] at hc1
    have hA : W.cell? (fAt w.heap.size 0 x) = some (.int .i64 (V x)) := by
      rw [← hV]
      obtain rfl | rfl | rfl | rfl | rfl | rfl | rfl | rfl | rfl | rfl := fin10 x
      · exact (blk_cell (k := 9) hF rfl).1
      · exact (blk_cell (k := 0) hF rfl).1
      · exact (blk_cell (k := 1) hF rfl).1
      · exact (blk_cell (k := 2) hF rfl).1
      · exact (blk_cell (k := 3) hF rfl).1
      · exact (blk_cell (k := 4) hF rfl).1
      · exact (blk_cell (k := 10) hF rfl).1
      · exact (blk_cell (k := 11) hF rfl).1
      · exact (blk_cell (k := 12) hF rfl).1
      · exact (blk_cell (k := 13) hF rfl).1
    have hB' := hB.size
    obtain ⟨b1, b2⟩ := fSz_bd x
    have hb34 := HBD.out x
    rw [hV] at hb34
    obtain ⟨b3, b4⟩ := hb34
    have hsz := catF_size V pre
    have hsn := catF_snoc V pre x
    have hbs := beS_size (fSz x) (V x) b1 b2
    have HSN := Lib.hid hsn
    clear hsn
    generalize hCC : catF V pre = C at *
    gi_wp2
    refine ⟨trivial, (CallsIn.inRound l' (callsIn_wide.2 (put_any _ _ _ b1 b2 b3 b4))).mono ?_⟩
    rintro e w2 ⟨rfl, hb2⟩
    have hO2 := blk_below hO hb2 (blk_lt hO)
    obtain ⟨d1, d2⟩ := blk_cell (k := 0) hO2 rfl
    simp only [List.getElem_toArray, List.getElem_cons_zero] at d1
    generalize hBB : beS (fSz x) (V x) = E at *
    gi_wp2
    refine ⟨(keeps_below hb2).trans (KeepsOthers.setCell _ _ _), (Below.heap_setCell _ _ _ _ (by show w.heap.size + 1 + 1 ≠ w.heap.size + 1; omega)).trans (hb2.block _ (blk_lt hP)),
      ⟨⟨blk_set (blk_below hF hb2 (blk_lt hF)) _ (by show w.heap.size + 1 ≠ w.heap.size; omega) _, blk_set (blk_below hP hb2 (blk_lt hP)) _ (by show w.heap.size + 1 ≠ w.heap.size + 1 + 1; omega) _⟩, ?_⟩, (hB.trans (hb2.mono hB.size)).setCell (by show w.heap.size ≤ w.heap.size + 1; omega) _⟩
    rw [HSN.out]
    exact blk_setc (k := 0) hO2 _
  case done =>
    rintro D ys W hD rfl ⟨⟨⟨hF, hP⟩, hO⟩, hB⟩ hK
    obtain ⟨d1, d2⟩ := blk_cell (k := 0) hO rfl
    simp only [List.getElem_toArray, List.getElem_cons_zero] at d1
    rw [show catF V fAll = hE V from rfl, ← hV] at d1
    gi_wp2
    have hDl := (Array.getElem?_eq_some_iff.1 hK).1
    refine ⟨by simp, .inl ⟨_, _, rfl, run_takeDeferred hK, ?_⟩⟩
    exact ⟨_, results_tmp rfl _ _ _, by rw [hV]; rfl, hB.trans (belowK_b (w := w) (Nat.le_refl _) W D _ _ (by omega) hK rfl rfl)⟩
  case stop =>
    rintro D c pre W _ _ h _
    exact h.elim

/-- (ip.header).encoding, of numbers that fit -/
theorem encoding_any (p : Pk) (v f u l c : Int) (w : World) (hbd : inR (fV p v f u l c)) :
    Calls Tryd.prog 56 #[hv p v f u l c] w fun e w' => e = .returned (.string (hE (fV p v f u l c))) ∧ Below w.heap.size w w' :=
  callsIn_wide.1 (encoding_in p v f u l c w hbd)
end Go.Proofs.YtidjbpglpobigaaDoor

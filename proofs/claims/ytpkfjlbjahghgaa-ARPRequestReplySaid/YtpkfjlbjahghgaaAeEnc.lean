/- Contract of arp.Encode. -/
import Derived.Test.YtpkfjlbjahghgaaAeFld
import Derived.Test.YtpkfjlbjahghgaaAeVal
import Derived.Test.YtpkfjlbjahghgaaPut
import Derived.Test.YtpkfjlbjahghgaaArMath
import Derived.Deep.AppendLies
import Derived.Maps.Range
namespace Go.Proofs.Ytpkfjlbjahghgaa
open Go.RowKit Go.Shelf
attribute [local go_sem] Oper.semAt_some

def fV (o f m t n : Int) : Fin 5 → Int
  | 0 => o
  | 1 => f
  | 2 => m
  | 3 => t
  | 4 => n
theorem fin5 (x : Fin 5) : x = 0 ∨ x = 1 ∨ x = 2 ∨ x = 3 ∨ x = 4 := by revert x; decide
def catF (o f m t n : Int) (pre : List (Fin 5)) : ByteArray := pre.foldl (fun s i => s ++ beS (fSz i) (fV o f m t n i)) ByteArray.empty
theorem catF_snoc (o f m t n : Int) (pre : List (Fin 5)) (x : Fin 5) : catF o f m t n (pre ++ [x]) = catF o f m t n pre ++ beS (fSz x) (fV o f m t n x) := by simp [catF]
theorem catF_all (o f m t n : Int) : catF o f m t n fAll = encA o f m t n := by
  simp [catF, fAll, encA, fSz, fV]
theorem fSz_bd (x : Fin 5) : 1 ≤ fSz x ∧ fSz x ≤ 4 := by
  obtain rfl | rfl | rfl | rfl | rfl := fin5 x
  all_goals exact ⟨by decide, by decide⟩
theorem catF_go (o f m t n : Int) : ∀ (pre : List (Fin 5)) (s : ByteArray), (pre.foldl (fun s i => s ++ beS (fSz i) (fV o f m t n i)) s).size ≤ s.size + 4 * pre.length
  | [], s => by simp
  | x :: pre, s => by
    have h1 := catF_go o f m t n pre (s ++ beS (fSz x) (fV o f m t n x))
    have h2 := fSz_bd x
    rw [ByteArray.size_append, beS_size _ _ h2.1 h2.2] at h1
    simp only [List.foldl_cons, List.length_cons]
    omega
theorem catF_size (o f m t n : Int) (pre : List (Fin 5)) : (catF o f m t n pre).size ≤ 4 * pre.length := by
  have := catF_go o f m t n pre ByteArray.empty
  simpa [catF] using this
theorem keeps_below {w w' : World} (hb : Below w.heap.size w w') : KeepsOthers w w' := ⟨hb.size, fun k _ hk _ => (hb.block k (blk_lt hk)).trans hk⟩

theorem encode_no (o f m t n : Int) (w : World) (h : ¬ okA o f m t n) :
    Calls Try.prog 14 #[av o f m t n] w fun e w' => e = .returned (.tuple #[.string ByteArray.empty, .int .i64 50]) ∧ Below w.heap.size w w' := by
  have hd : decide (okA o f m t n) = false := decide_eq_false h
  go_enter Try.func14, Try.ntmps14
  go_wp2_with fail
  refine (valid_any _ _ _ _ _ _).mono ?_
  rintro e w1 ⟨rfl, rfl⟩
  rw [hd]
  go_wp2
  go_ret2
  exact ⟨rfl, ((Below.refl _ w).alloc (Nat.le_refl _) _).alloc (by simp) _⟩

set_option maxRecDepth 100000 in
set_option maxHeartbeats 3000000 in
theorem encode_in (o f m t n : Int) (w : World) (h : okA o f m t n) :
    CallsIn Fence.wide 3 Try.prog 14 #[av o f m t n] w fun e w' => e = .returned (.tuple #[.string (encA o f m t n), .int .i64 0]) ∧ Below w.heap.size w w' := by
  have hro : Fence.wide.round = none := rfl
  have h1 : 1 ≤ 3 := by decide
  have hd : decide (okA o f m t n) = true := decide_eq_true h
  have hbd : ∀ x, 0 ≤ fV o f m t n x ∧ fV o f m t n x < 256 ^ (fSz x).toNat := by
    intro x
    unfold okA okOne okMac at h
    obtain rfl | rfl | rfl | rfl | rfl := fin5 x
    all_goals (simp only [fV, fSz]; refine ⟨by omega, ?_⟩; simp; omega)
  refine callsIn_of_wp_marks Try.func14 rfl trivial ?_ hro
  simp only [Try.ntmps14, List.size_toArray, List.length_cons, List.length_nil, Nat.reduceAdd, Nat.reduceSub, Array.replicate_succ, Array.replicate_zero, List.push_toArray, List.append_toArray, List.nil_append, List.cons_append]
  gi_wp2_with (refine ⟨trivial, ?_⟩; gi_at_call 16; refine (callsIn_wide.2 (valid_any _ _ _ _ _ _)).mono ?_; rintro e w1 ⟨rfl, rfl⟩; rw [hd])
  refine ⟨trivial, ?_⟩
  refine (fields_in Fence.wide _ trivial hro _ _).mono ?_
  rintro e w5 ⟨rfl, hw5⟩
  have hF5 : w5.heap[w.heap.size]? = some (ao o f m t n) := by rw [hw5]; exact blk_alloc (blk_alloc (blk_alloc (blk_new w _) _) _) _
  have hO5 : w5.heap[w.heap.size + 1 + 1]? = some (.cells #[.string ⟨#[]⟩] 9) := by
    rw [hw5]; have := blk_alloc (blk_new ((w.alloc (ao o f m t n)).alloc (ao o f m t n)) (.cells #[.string ⟨#[]⟩] 9)) (.cells #[.pointer (some ⟨w.heap.size, 0, none⟩)] 73)
    simp only [World.size_alloc] at this; exact this
  have hP5 : w5.heap[w.heap.size + 1 + 1 + 1]? = some (.cells #[.pointer (some ⟨w.heap.size, 0, none⟩)] 73) := by
    rw [hw5]; have := blk_new (((w.alloc (ao o f m t n)).alloc (ao o f m t n)).alloc (.cells #[.string ⟨#[]⟩] 9)) (.cells #[.pointer (some ⟨w.heap.size, 0, none⟩)] 73)
    simp only [World.size_alloc] at this; exact this
  have hs5 : w5.heap.size = w.heap.size + 4 := by rw [hw5]; simp
  have hB5 : Below w.heap.size w w5 := by rw [hw5]; exact ((((Below.refl _ w).alloc (Nat.le_refl _) _).alloc (by simp) _).alloc (by simp; omega) _).alloc (by simp; omega) _
  clear hw5
  gi_wp2
  refine wpIn_rangeFunc_ownF hro h1 (gf := 58) (lb := #[.pointer (some ⟨w.heap.size + 1 + 1 + 1, 0, none⟩)]) rfl trivial (enters_of Try.func58 (by kernel_rfl) rfl)
    (fields_stops Fence.wide _ trivial hro (by decide) (w.heap.size + 1 + 1 + 1) w.heap.size w5 (by omega) (blk_cell hP5 rfl).1)
    (fun h k => k.trans h)
    (fun W l o o' hl h _ _ => World.putObj_heap_other (by omega)) (Below.refl _ _) (fun _ => rfl)
    (fun pre W => ((W.heap[w.heap.size]? = some (ao o f m t n) ∧ W.heap[w.heap.size + 1 + 1 + 1]? = some (.cells #[.pointer (some ⟨w.heap.size, 0, none⟩)] 73 (0, 0))) ∧
      W.heap[w.heap.size + 1 + 1]? = some (.cells #[.string (catF o f m t n pre)] 9 (0, 0))) ∧ Below w.heap.size w W)
    (fun _ _ _ => False)
    (OwnFrom.and (OwnFrom.and (OwnFrom.and (Own.from (cells_own _ (fun _ => _) _) _) (Own.from (cells_own _ (fun _ => _) _) _))
      (Own.from (cells_own _ (fun pre => #[.string (catF o f m t n pre)]) _) _)) (ownFrom_below (Nat.le_refl _) (by omega)))
    (fun _ _ _ _ _ hs _ _ => hs)
    ⟨⟨⟨hF5, hP5⟩, hO5⟩, hB5⟩
    (fun x => { tmps := #[av o f m t n, .pointer (some ⟨w.heap.size, 0, none⟩), .string ⟨#[]⟩, .int .i64 0, .pointer (some ⟨w.heap.size + 1 + 1, 0, none⟩),
      .pointer (some (fAt w.heap.size x)), .int .i64 (fSz x), undef, undef, av o f m t n, .bool true, .bool false,
      .func (.func 58) #[] #[.pointer (some ⟨w.heap.size + 1 + 1 + 1, 0, none⟩)],
      .pointer (some (fAt w.heap.size x)), .int .i64 (fSz x), undef, undef, undef, undef, undef, undef, undef, undef, undef, undef, undef, undef], defers := [] }) ?assign ?body ?done ?stop
  case assign =>
    intro l x W K hK
    unfold fenc
    gi_wp2
    exact hK
  case body =>
    rintro l pre x W ⟨⟨⟨hF, hP⟩, hO⟩, hB⟩ hlt
    have hc := blk_cell (k := 0) hO rfl
    obtain ⟨hc1, hc2⟩ := hc
    simp only [List.getElem_toArray, List.getElem_cons_zero] at hc1
    have hA : W.cell? (fAt w.heap.size x) = some (.int .i64 (fV o f m t n x)) := by
      obtain rfl | rfl | rfl | rfl | rfl := fin5 x
      · exact (blk_cell (k := 0) hF rfl).1
      · exact (blk_cell (k := 1) hF rfl).1
      · exact (blk_cell (k := 2) hF rfl).1
      · exact (blk_cell (k := 3) hF rfl).1
      · exact (blk_cell (k := 4) hF rfl).1
    have hB' := hB.size
    obtain ⟨b1, b2⟩ := fSz_bd x
    obtain ⟨b3, b4⟩ := hbd x
    have hsz := catF_size o f m t n pre
    have hsn := catF_snoc o f m t n pre x
    have hbs := beS_size (fSz x) (fV o f m t n x) b1 b2
    have HSN := Lib.hid hsn
    clear hsn
    generalize hCC : catF o f m t n pre = C at *
    gi_wp2
    refine ⟨trivial, (CallsIn.inRound l (callsIn_wide.2 (put_any _ _ _ b1 b2 b3 b4))).mono ?_⟩
    rintro e w2 ⟨rfl, hb2⟩
    have hO2 := blk_below hO hb2 (blk_lt hO)
    obtain ⟨d1, d2⟩ := blk_cell (k := 0) hO2 rfl
    simp only [List.getElem_toArray, List.getElem_cons_zero] at d1
    generalize hBB : beS (fSz x) (fV o f m t n x) = E at *
    gi_wp2
    refine ⟨(keeps_below hb2).trans (KeepsOthers.setCell _ _ _), (Below.heap_setCell _ _ _ _ (by show w.heap.size + 1 + 1 + 1 ≠ w.heap.size + 1 + 1; omega)).trans (hb2.block _ (blk_lt hP)),
      ⟨⟨blk_set (blk_below hF hb2 (blk_lt hF)) _ (by show w.heap.size + 1 + 1 ≠ w.heap.size; omega) _, blk_set (blk_below hP hb2 (blk_lt hP)) _ (by show w.heap.size + 1 + 1 ≠ w.heap.size + 1 + 1 + 1; omega) _⟩, ?_⟩, (hB.trans (hb2.mono hB.size)).setCell (by show w.heap.size ≤ w.heap.size + 1 + 1; omega) _⟩
    rw [HSN.out]
    exact blk_setc (k := 0) hO2 _
  case done =>
    rintro D ys W hD rfl ⟨⟨⟨hF, hP⟩, hO⟩, hB⟩ hK
    obtain ⟨d1, d2⟩ := blk_cell (k := 0) hO rfl
    simp only [List.getElem_toArray, List.getElem_cons_zero] at d1
    rw [catF_all] at d1
    gi_wp2
    have hDl := (Array.getElem?_eq_some_iff.1 hK).1
    refine ⟨by simp, .inl ⟨_, _, rfl, run_takeDeferred hK, ?_⟩⟩
    exact ⟨_, results_tmp2 rfl _ _ _, rfl, hB.trans (belowK_b (w := w) (Nat.le_refl _) W D _ _ (by omega) hK rfl rfl)⟩
  case stop =>
    rintro D c pre W _ _ h _
    exact h.elim

/-- arp.Encode, of a valid message -/
theorem encode_yes (o f m t n : Int) (w : World) (h : okA o f m t n) :
    Calls Try.prog 14 #[av o f m t n] w fun e w' => e = .returned (.tuple #[.string (encA o f m t n), .int .i64 0]) ∧ Below w.heap.size w w' :=
  callsIn_wide.1 (encode_in o f m t n w h)
end Go.Proofs.Ytpkfjlbjahghgaa

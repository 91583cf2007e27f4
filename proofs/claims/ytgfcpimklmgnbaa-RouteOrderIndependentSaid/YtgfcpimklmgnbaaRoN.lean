/- The chapter's example, and the statements' own sanity. -/
import Derived.Test.YtgfcpimklmgnbaaRoK
namespace Go.Proofs.Ytgfcpimklmgnbaa
open Go.RowKit Go.Shelf
set_option linter.unusedVariables false
attribute [local go_sem] Oper.semAt_some

def fsE : List Fc := [⟨1, 167772161, 167772160, 24, 500⟩]
def rsE : List Ro := [⟨0, 0, 167772414, 0⟩, ⟨168361984, 16, 167772169, 0⟩]
theorem RsAt.two (W W' : World) (B : Nat) (a b : Ro) (ha : InR a) (hb : InR b) (h : W.heap[B]? = some (.cells #[.int .i64 a.na, .int .i64 a.nb, .int .i64 a.via, .int .i64 a.face, .int .i64 b.na, .int .i64 b.nb, .int .i64 b.via, .int .i64 b.face] 29 (0, 0))) : RsAt W (.slice (some ⟨B, 0, none⟩) 2 2) [a, b] := by
  refine ⟨by simp, _, _, rfl, fun k hk => ?_⟩
  rcases (by simp at hk; omega : k = 0 ∨ k = 1) with rfl | rfl
  · refine ⟨ha, _, rfl, fun j hj => ?_⟩
    rcases (by omega : j = 0 ∨ j = 1 ∨ j = 2 ∨ j = 3) with rfl | rfl | rfl | rfl
    · exact (blk_cell (k := 0) h rfl).1
    · exact (blk_cell (k := 1) h rfl).1
    · exact (blk_cell (k := 2) h rfl).1
    · exact (blk_cell (k := 3) h rfl).1
  · refine ⟨hb, _, rfl, fun j hj => ?_⟩
    rcases (by omega : j = 0 ∨ j = 1 ∨ j = 2 ∨ j = 3) with rfl | rfl | rfl | rfl
    · exact (blk_cell (k := 4) h rfl).1
    · exact (blk_cell (k := 5) h rfl).1
    · exact (blk_cell (k := 6) h rfl).1
    · exact (blk_cell (k := 7) h rfl).1

set_option maxRecDepth 100000 in
set_option maxHeartbeats 1600000 in
theorem example_any (w : World) :
    Calls Try.prog 22 #[] w fun e w' => (∃ vf vr, e = .returned (.tuple #[vf, vr]) ∧ FsAt w' vf fsE ∧ RsAt w' vr rsE) ∧ Below w.heap.size w w' := by
  go_enter Try.func22, Try.ntmps22
  go_wp2_with fail
  refine (net24 167772160 _ (by decide) (by decide)).mono ?_
  rintro e w1 ⟨rfl, hb1⟩
  rw [show netZ 167772160 24 = 167772160 from by decide]
  have HB1 := Lib.hid hb1
  clear hb1
  go_wp2_with fail
  refine (net16 168361984 _ (by decide) (by decide)).mono ?_
  rintro e w2 ⟨rfl, hb2⟩
  rw [show netZ 168361984 16 = 168361984 from by decide]
  have h1 := FsAt.one w1 ⟨1, 167772161, 167772160, 24, 500⟩ (by unfold InF InI; decide)
  have HF := Lib.hid (h1.keep hb2)
  have HB2 := Lib.hid ((HB1.out.alloc HB1.out.size (fo ⟨1, 167772161, 167772160, 24, 500⟩)).trans (hb2.mono (by have := HB1.out.size; simp; omega)))
  clear hb2 h1
  go_wp2_with fail
  go_ret2
  refine ⟨⟨_, _, rfl, HF.out.keep (below_alloc w2 _), RsAt.two _ w2 w2.heap.size ⟨0, 0, 167772414, 0⟩ ⟨168361984, 16, 167772169, 0⟩ (by unfold InR InI; decide) (by unfold InR InI; decide) (blk_new w2 _)⟩, HB2.out.alloc HB2.out.size _⟩

theorem lv {fs : List Fc} {rs : List Ro} {to a b c : Int} (h : lookP fs rs to = (a, b, c)) : lookV fs rs to = .tuple #[.int .i64 a, .int .i64 b, .int .i64 c] := by unfold lookV; rw [h]
set_option maxRecDepth 100000 in
set_option maxHeartbeats 3200000 in
theorem sanity_any (w : World) :
    Calls Try.prog 8 #[] w fun e w' => e = .returned (.bool true) ∧ Below w.heap.size w w' := by
  go_enter Try.func8, Try.ntmps8
  go_wp2_with fail
  refine (example_any _).mono ?_
  rintro e w1 ⟨⟨vf, vr, rfl, hf, hr⟩, hb1⟩
  obtain ⟨p, c, rfl, -⟩ := hf.form
  obtain ⟨p2, c2, rfl, -⟩ := hr.form
  have HF := Lib.hid hf
  have HR := Lib.hid hr
  have HB1 := Lib.hid hb1
  clear hf hr hb1
  go_wp2_with fail
  refine (lookup_any fsE rsE 167772167 _ _ _ HF.out HR.out (by unfold InI; decide)).mono ?_
  rintro e w2 ⟨rfl, hb2⟩
  rw [lv (a := 0) (b := 167772167) (c := 0) (by decide +kernel)]
  have HF2 := Lib.hid (HF.out.keep hb2)
  have HR2 := Lib.hid (HR.out.keep hb2)
  have HB2 := Lib.hid (HB1.out.trans (hb2.mono HB1.out.size))
  clear hb2
  go_wp2_with fail
  refine (lookup_any fsE rsE 168362241 _ _ _ HF2.out HR2.out (by unfold InI; decide)).mono ?_
  rintro e w3 ⟨rfl, hb2⟩
  rw [lv (a := 0) (b := 167772169) (c := 0) (by decide +kernel)]
  have HF3 := Lib.hid (HF2.out.keep hb2)
  have HR3 := Lib.hid (HR2.out.keep hb2)
  have HB3 := Lib.hid (HB2.out.trans (hb2.mono HB2.out.size))
  clear hb2
  go_wp2_with fail
  refine (lookup_any fsE rsE 134217728 _ _ _ HF3.out HR3.out (by unfold InI; decide)).mono ?_
  rintro e w4 ⟨rfl, hb2⟩
  rw [lv (a := 0) (b := 167772414) (c := 0) (by decide +kernel)]
  have HF4 := Lib.hid (HF3.out.keep hb2)
  have HR4 := Lib.hid (HR3.out.keep hb2)
  have HB4 := Lib.hid (HB3.out.trans (hb2.mono HB3.out.size))
  clear hb2
  go_wp2_with fail
  refine (lookup_any fsE [] 134217728 _ _ _ HF4.out (RsAt.nil _ _ _) (by unfold InI; decide)).mono ?_
  rintro e w5 ⟨rfl, hb2⟩
  rw [lv (a := 0) (b := 0) (c := 91) (by decide +kernel)]
  have HF5 := Lib.hid (HF4.out.keep hb2)
  have HR5 := Lib.hid (HR4.out.keep hb2)
  have HB5 := Lib.hid (HB4.out.trans (hb2.mono HB4.out.size))
  clear hb2
  go_wp2_with fail
  refine (lookup_any fsE rsE 0 _ _ _ HF5.out HR5.out (by unfold InI; decide)).mono ?_
  rintro e w6 ⟨rfl, hb2⟩
  rw [lv (a := 0) (b := 0) (c := 90) (by decide +kernel)]
  have HF6 := Lib.hid (HF5.out.keep hb2)
  have HB6 := Lib.hid (HB5.out.trans (hb2.mono HB5.out.size))
  clear hb2
  go_wp2_with fail
  refine (check_any [] [] _ _ _ (FsAt.nil _ _ _) (RsAt.nil _ _ _)).mono ?_
  rintro e w7 ⟨rfl, hb2⟩
  rw [show chE [] [] = 90 from by decide]
  have HF7 := Lib.hid (HF6.out.keep hb2)
  have HB7 := Lib.hid (HB6.out.trans (hb2.mono HB6.out.size))
  clear hb2
  go_wp2_with fail
  refine (isl_any fsE 167772161 _ _ HF7.out).mono ?_
  rintro e w8 ⟨rfl, hb2⟩
  rw [show locI fsE 167772161 = 0 from by decide, show locB fsE 167772161 = true from by decide]
  have HF8 := Lib.hid (HF7.out.keep hb2)
  have HB8 := Lib.hid (HB7.out.trans (hb2.mono HB7.out.size))
  clear hb2
  obtain ⟨f, hf0, hin, g, hp, hg, c0, c1, c2, c3, c4⟩ := HF8.out.at 0 (by decide)
  obtain rfl : f = ⟨1, 167772161, 167772160, 24, 500⟩ := by simpa [fsE] using hf0.symm
  subst hp
  simp only [Nat.zero_mul] at c0 c1 c2 c3 c4
  clear hf0
  have HV := fun w => Lib.hid (vif_any ⟨1, 167772161, 167772160, 24, 500⟩ hin w)
  rw [show okF ⟨1, 167772161, 167772160, 24, 500⟩ = true from by decide +kernel] at HV
  rw [show fsE.length = 1 from rfl]
  go_wp2_with fail
  refine (HV _).out.mono ?_
  rintro e w9 ⟨rfl, hb9⟩
  have HB9 := HB8.out.trans (hb9.mono HB8.out.size)
  go_wp2_with fail
  go_ret
  exact ⟨rfl, HB9⟩
end Go.Proofs.Ytgfcpimklmgnbaa

/- Contracts of Lookup, the program's and the document's. -/
import Derived.Test.YtgfcpimklmgnbaaRoF
import Derived.OwnWalk
namespace Go.Proofs.Ytgfcpimklmgnbaa
open Go.RowKit Go.Shelf
set_option linter.unusedVariables false
attribute [local go_sem] Oper.semAt_some

theorem look_no {fs : List Fc} {rs : List Ro} {to : Int} (h : checkP fs rs = false) : lookV fs rs to = .tuple #[.int .i64 0, .int .i64 0, .int .i64 90] := by unfold lookV lookP; simp [h]
theorem look_nu {fs : List Fc} {rs : List Ro} {to : Int} (h : checkP fs rs = true) (hu : uni to = false) : lookV fs rs to = .tuple #[.int .i64 0, .int .i64 0, .int .i64 90] := by unfold lookV lookP; simp [h, hu]
theorem look_nr {fs : List Fc} {rs : List Ro} {to : Int} (h : checkP fs rs = true) (hu : uni to = true) (ho : bestC (candL fs rs to) = none) : lookV fs rs to = .tuple #[.int .i64 0, .int .i64 0, .int .i64 91] := by unfold lookV lookP; simp [h, hu, ho]
theorem look_ok {fs : List Fc} {rs : List Ro} {to : Int} {c : Ro} (h : checkP fs rs = true) (hu : uni to = true) (ho : bestC (candL fs rs to) = some c) : lookV fs rs to = .tuple #[.int .i64 c.face, .int .i64 (if c.via = 0 then to else c.via), .int .i64 0] := by unfold lookV lookP; simp [h, hu, ho]
theorem check_e {fs : List Fc} {rs : List Ro} : (checkP fs rs = true ∧ chE fs rs = 0) ∨ (checkP fs rs = false ∧ chE fs rs = 90) := by
  unfold chE
  cases checkP fs rs
  · exact .inr ⟨rfl, rfl⟩
  · exact .inl ⟨rfl, rfl⟩

def lookO (to : Int) : Option Ro → Value
  | none => .tuple #[.int .i64 0, .int .i64 0, .int .i64 91]
  | some c => .tuple #[.int .i64 c.face, .int .i64 (if c.via = 0 then to else c.via), .int .i64 0]
theorem look_o {fs : List Fc} {rs : List Ro} {to : Int} {o : Option Ro} (h : checkP fs rs = true) (hu : uni to = true) (ho : bestC (candL fs rs to) = o) : lookV fs rs to = lookO to o := by
  cases o with
  | none => exact look_nr h hu ho
  | some c => exact look_ok h hu ho
theorem FsAt.shape {w : World} {v : Value} {fs : List Fc} (h : FsAt w v fs) : ∃ p n c, v = .slice p n c := by
  obtain ⟨p, c, e, -⟩ := h.form; exact ⟨p, _, c, e⟩
theorem RsAt.shape {w : World} {v : Value} {rs : List Ro} (h : RsAt w v rs) : ∃ p n c, v = .slice p n c := by
  obtain ⟨p, c, e, -⟩ := h.form; exact ⟨p, _, c, e⟩
theorem cands_any (p p2 : Option Addr) (n c n2 c2 : Nat) (to : Int) (w : World) :
    Calls Try.prog 30 #[.slice p n c, .slice p2 n2 c2, .int .i64 to] w fun e w' => e = .returned (.func (.func 39) #[] #[.pointer (some ⟨w.heap.size, 0, none⟩), .pointer (some ⟨w.heap.size + 1 + 1, 0, none⟩), .pointer (some ⟨w.heap.size + 1, 0, none⟩)]) ∧
      w' = ((w.alloc (.cells #[.slice p n c] 31)).alloc (.cells #[.slice p2 n2 c2] 33)).alloc (.cells #[.int .i64 to] 3) := by
  go_enter Try.func30, Try.ntmps30
  go_wp2
  go_ret
  exact ⟨rfl, rfl⟩

set_option maxRecDepth 100000 in
set_option maxHeartbeats 3200000 in
theorem lookup_any (fs : List Fc) (rs : List Ro) (to : Int) (vf vr : Value) (w : World) (hf : FsAt w vf fs) (hr : RsAt w vr rs) (hto : InI to) :
    Calls Try.prog 15 #[vf, vr, .int .i64 to] w fun e w' => e = .returned (lookV fs rs to) ∧ Below w.heap.size w w' := by
  obtain ⟨p, n, c, rfl⟩ := hf.shape
  obtain ⟨p2, n2, c2, rfl⟩ := hr.shape
  have HC := Lib.hid (check_any fs rs _ _ w hf hr)
  have HU := Lib.hid (uni_any to)
  rcases @check_e fs rs with ⟨hck, hce⟩ | ⟨hck, hce⟩
  rotate_left
  · rw [look_no hck]
    rw [hce] at HC
    clear hf hr
    go_enter Try.func15, Try.ntmps15
    go_wp2_with fail
    refine HC.out.mono ?_
    rintro e w2 ⟨rfl, hb2⟩
    go_wp2_with fail
    go_ret3
    exact ⟨rfl, hb2⟩
  rw [hce] at HC
  cases hu : uni to
  · rw [look_nu hck hu]
    rw [hu] at HU
    clear hf hr
    go_enter Try.func15, Try.ntmps15
    go_wp2_with fail
    refine HC.out.mono ?_
    rintro e w2 ⟨rfl, hb2⟩
    go_wp2_with fail
    refine (HU.out _).mono ?_
    rintro e w2' ⟨rfl, rfl⟩
    go_wp2_with fail
    go_ret3
    exact ⟨rfl, hb2⟩
  rw [hu] at HU
  have HB := fun (Fb Tb Rb : Nat) (w : World) h1 h2 h3 h4 h5 => Lib.hid (callsIn_wide.1 (best_in fs rs to (.slice p n c) (.slice p2 n2 c2) Fb Tb Rb w h1 h2 hto h3 h4 h5))
  obtain ⟨o, ho⟩ : ∃ o, bestC (candL fs rs to) = o := ⟨_, rfl⟩
  rw [ho] at HB
  rw [look_o hck hu ho]
  have HF := Lib.hid hf
  have HR := Lib.hid hr
  clear ho hck hu hf hr hce
  go_enter Try.func15, Try.ntmps15
  go_wp2_with fail
  refine HC.out.mono ?_
  rintro e w2 ⟨rfl, hb2⟩
  have HB2 := Lib.hid hb2
  clear hb2
  go_wp2_with fail
  refine (HU.out _).mono ?_
  rintro e w2' ⟨rfl, rfl⟩
  go_wp2_with fail
  refine (cands_any p p2 n c n2 c2 to _).mono ?_
  rintro e w3 ⟨rfl, hw3⟩
  have hb3 : Below w2.heap.size w2 w3 := by rw [hw3]; exact (((Below.refl _ w2).alloc (Nat.le_refl _) _).alloc (by simp) _).alloc (by simp; omega) _
  have k1 : w3.cell? ⟨w2.heap.size, 0, none⟩ = some (.slice p n c) := by rw [hw3]; exact (blk_cell (k := 0) (blk_alloc (blk_alloc (blk_new w2 _) _) _) rfl).1
  have k2 : w3.cell? ⟨w2.heap.size + 1, 0, none⟩ = some (.slice p2 n2 c2) := by
    rw [hw3]
    have := blk_alloc (blk_new (w2.alloc (.cells #[.slice p n c] 31)) (.cells #[.slice p2 n2 c2] 33)) (.cells #[.int .i64 to] 3)
    simp only [World.size_alloc] at this
    exact (blk_cell (k := 0) this rfl).1
  have k3 : w3.cell? ⟨w2.heap.size + 1 + 1, 0, none⟩ = some (.int .i64 to) := by
    rw [hw3]
    have := blk_new ((w2.alloc (.cells #[.slice p n c] 31)).alloc (.cells #[.slice p2 n2 c2] 33)) (.cells #[.int .i64 to] 3)
    simp only [World.size_alloc] at this
    exact (blk_cell (k := 0) this rfl).1
  have HBe := HB _ _ _ w3 ((HF.out.keep HB2.out).keep hb3) ((HR.out.keep HB2.out).keep hb3) k1 k3 k2
  have HB3 := Lib.hid (HB2.out.trans (hb3.mono HB2.out.size))
  clear hw3 hb3 k1 k2 k3 HB HU HC
  go_wp2_with fail
  refine HBe.out.mono ?_
  rintro e w4 ⟨rfl, hb4⟩
  have HB4 := Lib.hid (HB3.out.trans (hb4.mono HB3.out.size))
  clear hb4 HBe
  cases o with
  | none =>
    simp only [Option.isSome_none]
    go_wp2_with fail
    go_ret3
    exact ⟨rfl, HB4.out.alloc HB4.out.size _⟩
  | some cc =>
    simp only [Option.isSome_some, topR]
    obtain ⟨q0, q1, q2, q3⟩ := blk4 w4 cc
    by_cases hv : cc.via = 0
    · have hv2 : (cc.via == 0) = true := by simpa using hv
      go_wp2_with fail
      go_ret3
      exact ⟨by simp only [lookO, hv]; rfl, HB4.out.alloc HB4.out.size _⟩
    · have hv2 : (cc.via == 0) = false := by simpa using hv
      go_wp2_with fail
      go_quiet (fail)
      go_wp2_with fail
      go_ret3
      exact ⟨by simp only [lookO, if_neg hv]; rfl, below_drewN (HB4.out.alloc HB4.out.size _)⟩
end Go.Proofs.Ytgfcpimklmgnbaa

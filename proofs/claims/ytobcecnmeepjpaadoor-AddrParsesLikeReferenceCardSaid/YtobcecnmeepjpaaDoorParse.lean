/- The contract of Parse. -/
import Derived.Test.YtobcecnmeepjpaaDoorJoin
import Derived.Laws.Cover3
namespace Go.Proofs.YtobcecnmeepjpaaDoor
open Go.RowKit
set_option linter.unusedVariables false

theorem split_size (sep : ByteArray) : ∀ (k : Nat) (s f : ByteArray), f ∈ Lib.splitB sep 0 k s → f.size ≤ s.size
  | 0, s, f, h => by rw [Lib.splitB_zero] at h; simp at h; rw [h]; exact Nat.le_refl _
  | k + 1, s, f, h => by
    unfold Lib.splitB at h
    split at h
    · simp at h; rw [h]; exact Nat.le_refl _
    · rcases List.mem_cons.1 h with h | h
      · rw [h, ByteArray.size_extract]; omega
      · have := split_size sep k _ f h
        rw [ByteArray.size_extract] at this
        omega

/-- the fields of a text between its dots, at most five -/
def fieldsOf (s : ByteArray) : List ByteArray := Lib.splitB ⟨#[46]⟩ 0 (min 5 (s.size + 1) - 1) s
/-- what Parse reads -/
def parseL (s : ByteArray) : Option Int := if (fieldsOf s).length = 4 then joinL ((fieldsOf s).map (·.data.toList)) 0 else none

theorem split_any (s : ByteArray) (w : World) (hs : s.size ≤ 4294967280) (E : Env w) :
    Calls Tryd.prog 33 #[.string s, .string ⟨#[46]⟩, .int .i64 5] w fun e w' => e = .returned (.slice (some ⟨w.heap.size, 0, none⟩) (fieldsOf s).length (min 5 (s.size + 1))) ∧ w' = w.alloc (.cells (Lib.cellsOf (fieldsOf s) (min 5 (s.size + 1))) 9) := by
  obtain ⟨m, hm⟩ := E.lim
  exact Tryd.strings_SplitN s ⟨#[46]⟩ 5 m w (by omega) hm (by decide) (by decide) (by decide)

set_option maxRecDepth 20000 in
set_option maxHeartbeats 4000000 in
theorem parse_no (s : ByteArray) (w : World) (hs : s.size ≤ 4294967280) (E : Env w) (h : ¬ (fieldsOf s).length = 4) :
    Calls Tryd.prog 16 #[.string s] w fun e w' => e = .returned (.tuple #[.int .i64 0, .int .i64 30]) ∧ Below w.heap.size w w' := by
  have S := split_any s w hs E
  obtain ⟨n, hn⟩ : ∃ n, (fieldsOf s).length = n := ⟨_, rfl⟩
  obtain ⟨c, hc⟩ : ∃ c, min 5 (s.size + 1) = c := ⟨_, rfl⟩
  rw [hn] at h
  rw [hn, hc] at S
  obtain ⟨F, hF⟩ : ∃ F, Lib.cellsOf (fieldsOf s) c = F := ⟨_, rfl⟩
  rw [hF] at S
  have S := Lib.hid S
  have h4 : ((n : Int) == 4) = false := by rw [beq_eq_false_iff_ne]; omega
  clear hn hc hF hs E
  go_enter Tryd.func16, Tryd.ntmps16
  go_wp2_with fail
  refine S.out.mono ?_
  rintro e w' ⟨rfl, rfl⟩
  go_wp2_with fail
  go_ret2
  exact ⟨rfl, (Below.refl _ _).alloc (Nat.le_refl _) _⟩

theorem split_len (sep : ByteArray) : ∀ (k : Nat) (s : ByteArray), (Lib.splitB sep 0 k s).length ≤ k + 1
  | 0, s => by rw [Lib.splitB_zero]; exact Nat.le_refl _
  | k + 1, s => by
    unfold Lib.splitB
    split
    · simp
    · have := split_len sep k (s.extract ((Lib.indexB s sep).toNat + sep.size) s.size)
      simp only [List.length_cons]; omega

set_option maxRecDepth 20000 in
set_option maxHeartbeats 4000000 in
theorem parse_four (s f0 f1 f2 f3 : ByteArray) (w : World) (hs : s.size ≤ 4294967280) (E : Env w) (h : fieldsOf s = [f0, f1, f2, f3]) :
    Calls Tryd.prog 16 #[.string s] w fun e w' => e = .returned (.tuple #[.int .i64 ((joinL [f0.data.toList, f1.data.toList, f2.data.toList, f3.data.toList] 0).getD 0), .int .i64 (if (joinL [f0.data.toList, f1.data.toList, f2.data.toList, f3.data.toList] 0).isSome then 0 else 30)]) ∧ Below w.heap.size w w' := by
  have S := split_any s w hs E
  have hc : min 5 (s.size + 1) = 4 ∨ min 5 (s.size + 1) = 5 := by
    have := split_len ⟨#[46]⟩ (min 5 (s.size + 1) - 1) s
    rw [show Lib.splitB ⟨#[46]⟩ 0 (min 5 (s.size + 1) - 1) s = _ from h] at this
    simp only [List.length_cons, List.length_nil] at this
    omega
  have hsz := split_size ⟨#[46]⟩ (min 5 (s.size + 1) - 1) s
  rw [show Lib.splitB ⟨#[46]⟩ 0 (min 5 (s.size + 1) - 1) s = _ from h] at hsz
  rw [h] at S
  have s0 : f0.size ≤ s.size := hsz f0 (by simp)
  have s1 : f1.size ≤ s.size := hsz f1 (by simp)
  have s2 : f2.size ≤ s.size := hsz f2 (by simp)
  have s3 : f3.size ≤ s.size := hsz f3 (by simp)
  have J := fun w (E : Env w) => join_any f0 f1 f2 f3 w (by omega) (by omega) (by omega) (by omega) E
  obtain ⟨eV, hV⟩ : ∃ x, (joinL [f0.data.toList, f1.data.toList, f2.data.toList, f3.data.toList] 0).getD 0 = x := ⟨_, rfl⟩
  obtain ⟨eE, hE⟩ : ∃ x : Int, (if (joinL [f0.data.toList, f1.data.toList, f2.data.toList, f3.data.toList] 0).isSome then 0 else 30) = x := ⟨_, rfl⟩
  rw [hV, hE] at J ⊢
  clear hV hE s0 s1 s2 s3 hsz
  have hA := fun w a c => Go.run_arrayAt (P := Tryd.prog) (w := w) 50 9 4 a 4 c Tryd.underlying50 (Nat.le_refl _)
  rcases hc with hc | hc
  · rw [hc] at S
    rw [show Lib.cellsOf [f0, f1, f2, f3] 4 = #[.string f0, .string f1, .string f2, .string f3] from rfl] at S
    have hb : Below w.heap.size w (w.alloc (.cells #[.string f0, .string f1, .string f2, .string f3] 9)) := (Below.refl _ _).alloc (Nat.le_refl _) _
    have J := J _ (E.stay hb)
    have S := Lib.hid S
    have J := Lib.hid J
    clear hs E hc h
    go_enter Tryd.func16, Tryd.ntmps16
    go_wp2_with fail
    refine S.out.mono ?_
    rintro e w' ⟨rfl, rfl⟩
    go_wp2_with fail
    refine J.out.mono ?_
    rintro e w' ⟨rfl, hb2⟩
    go_wp2_with fail
    go_ret2
    exact ⟨rfl, hb.trans (hb2.mono hb.size)⟩
  · rw [hc] at S
    rw [show Lib.cellsOf [f0, f1, f2, f3] 5 = #[.string f0, .string f1, .string f2, .string f3, .string ByteArray.empty] from rfl] at S
    have hb : Below w.heap.size w (w.alloc (.cells #[.string f0, .string f1, .string f2, .string f3, .string ByteArray.empty] 9)) := (Below.refl _ _).alloc (Nat.le_refl _) _
    have J := J _ (E.stay hb)
    have S := Lib.hid S
    have J := Lib.hid J
    clear hs E hc h
    go_enter Tryd.func16, Tryd.ntmps16
    go_wp2_with fail
    refine S.out.mono ?_
    rintro e w' ⟨rfl, rfl⟩
    go_wp2_with fail
    refine J.out.mono ?_
    rintro e w' ⟨rfl, hb2⟩
    go_wp2_with fail
    go_ret2
    exact ⟨rfl, hb.trans (hb2.mono hb.size)⟩

theorem len_four {α : Type} {l : List α} (h : l.length = 4) : ∃ a b c d, l = [a, b, c, d] := by
  match l, h with
  | [a, b, c, d], _ => exact ⟨a, b, c, d, rfl⟩

theorem parse_any (s : ByteArray) (w : World) (hs : s.size ≤ 4294967280) (E : Env w) :
    Calls Tryd.prog 16 #[.string s] w fun e w' => e = .returned (.tuple #[.int .i64 ((parseL s).getD 0), .int .i64 (if (parseL s).isSome then 0 else 30)]) ∧ Below w.heap.size w w' := by
  by_cases h : (fieldsOf s).length = 4
  · obtain ⟨f0, f1, f2, f3, hf⟩ := len_four h
    have hp : parseL s = joinL [f0.data.toList, f1.data.toList, f2.data.toList, f3.data.toList] 0 := by rw [parseL, if_pos h, hf]; rfl
    rw [hp]
    exact parse_four s f0 f1 f2 f3 w hs E hf
  · have hp : parseL s = none := by rw [parseL, if_neg h]
    rw [hp]
    exact parse_no s w hs E h
end Go.Proofs.YtobcecnmeepjpaaDoor

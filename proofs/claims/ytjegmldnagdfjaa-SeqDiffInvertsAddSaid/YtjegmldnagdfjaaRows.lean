/-
  No cell of these rows narrows 'for every input' (looked for: loops, veiled, ifaces, maps, wideKeys, modest, calm, conditions, laid).
  DERIVED. THE GIVEN ROWS OF THIS SEAT. 4 by the template 'for every input the law returns true; each argument reads behind the call as it read before'; 0 by the template 'total and deterministic' (their statements: YtjegmldnagdfjaaTotals.lean).
  GIVEN WITH THE SEED: the statements are not yours to turn. If you find one false, say at which input.
  Laid BY PROGRAM, IN A SANDBOX (cutbox-rows.mjs): the forced cells as the released guide's own fill.sh prints them over the translation 8c1f9c58f7035de9… (all of the seat's roots in one cut). By AI agents, Wed Nov 11 2026. No macro, syntax, notation, axiom, sorry.
-/
import Derived.Test.YtjegmldnagdfjaaChecked
import GoSem.Claim
import GoSem.ClaimJoined
import GoSem.ClaimMapViews
import Derived.JoinedTies
import Derived.KernelRfl
namespace Go.Proofs.Ytjegmldnagdfjaa
/- THE CELL 'sum', in the pinned program and in every row, IS THE sha256 OF THE DUMP (.gsa) THAT YtjegmldnagdfjaaProg.lean LOADS. Nothing in Lean hashes anything: it is a label: what it is worth is what the hold of that sum in a sandbox is worth. -/
noncomputable def Try.pinned : Pinned := { name := "ytjegmldnagdfjaa", sum := "8c1f9c58f7035de9dc3a1436d54ad63147da821a3ebc397562c94753b81e1740", checked := Try.checked }
namespace Rows
def none {H : Type} : Left H := { results := [], args := [] }

/-- 'stagepostlaw02.SeqMatchesReference': WHATEVER THE INPUT: true; the input reads as it did. -/
def seqMatchesReferenceSpec : ChangeSpec := { name := "seqMatchesReference", fn := fun _ => fun
  | [d1, d2, d3] => { results := [.lit (.bool true)], args := [d1, d2, d3] }
  | _ => none }
def seqMatchesReferenceRow : OpenClaim := { program := "ytjegmldnagdfjaa", sum := "8c1f9c58f7035de9dc3a1436d54ad63147da821a3ebc397562c94753b81e1740", func := "stagepost/stagepostlaw02.SeqMatchesReference", spec := "seqMatchesReference", unfollowed := true, recurses := true, apart := false }
def SeqMatchesReferenceSaid : Prop := seqMatchesReferenceRow.holds Try.pinned (OpenSpec.ofChange seqMatchesReferenceSpec)

/-- ITS FALSE NEIGHBOUR: 'it returns false'. Refute it at one input. -/
def seqMatchesReferenceWrong : ChangeSpec := { name := "seqMatchesReference", fn := fun _ => fun
  | [d1, d2, d3] => { results := [.lit (.bool false)], args := [d1, d2, d3] }
  | _ => none }
def SeqMatchesReferenceWrongFalsely : Prop := seqMatchesReferenceRow.holds Try.pinned (OpenSpec.ofChange seqMatchesReferenceWrong)

/-- 'stagepostlaw02.SeqShiftInvariant': WHATEVER THE INPUT: true; the input reads as it did. -/
def seqShiftInvariantSpec : ChangeSpec := { name := "seqShiftInvariant", fn := fun _ => fun
  | [d1, d2, d3, d4] => { results := [.lit (.bool true)], args := [d1, d2, d3, d4] }
  | _ => none }
def seqShiftInvariantRow : OpenClaim := { program := "ytjegmldnagdfjaa", sum := "8c1f9c58f7035de9dc3a1436d54ad63147da821a3ebc397562c94753b81e1740", func := "stagepost/stagepostlaw02.SeqShiftInvariant", spec := "seqShiftInvariant", unfollowed := true, recurses := true, apart := false }
def SeqShiftInvariantSaid : Prop := seqShiftInvariantRow.holds Try.pinned (OpenSpec.ofChange seqShiftInvariantSpec)

/-- ITS FALSE NEIGHBOUR: 'it returns false'. Refute it at one input. -/
def seqShiftInvariantWrong : ChangeSpec := { name := "seqShiftInvariant", fn := fun _ => fun
  | [d1, d2, d3, d4] => { results := [.lit (.bool false)], args := [d1, d2, d3, d4] }
  | _ => none }
def SeqShiftInvariantWrongFalsely : Prop := seqShiftInvariantRow.holds Try.pinned (OpenSpec.ofChange seqShiftInvariantWrong)

/-- 'stagepostlaw02.SeqDiffInvertsAdd': WHATEVER THE INPUT: true; the input reads as it did. -/
def seqDiffInvertsAddSpec : ChangeSpec := { name := "seqDiffInvertsAdd", fn := fun _ => fun
  | [d1, d2, d3, d4] => { results := [.lit (.bool true)], args := [d1, d2, d3, d4] }
  | _ => none }
def seqDiffInvertsAddRow : OpenClaim := { program := "ytjegmldnagdfjaa", sum := "8c1f9c58f7035de9dc3a1436d54ad63147da821a3ebc397562c94753b81e1740", func := "stagepost/stagepostlaw02.SeqDiffInvertsAdd", spec := "seqDiffInvertsAdd", unfollowed := true, recurses := true, apart := false }
def SeqDiffInvertsAddSaid : Prop := seqDiffInvertsAddRow.holds Try.pinned (OpenSpec.ofChange seqDiffInvertsAddSpec)

/-- ITS FALSE NEIGHBOUR: 'it returns false'. Refute it at one input. -/
def seqDiffInvertsAddWrong : ChangeSpec := { name := "seqDiffInvertsAdd", fn := fun _ => fun
  | [d1, d2, d3, d4] => { results := [.lit (.bool false)], args := [d1, d2, d3, d4] }
  | _ => none }
def SeqDiffInvertsAddWrongFalsely : Prop := seqDiffInvertsAddRow.holds Try.pinned (OpenSpec.ofChange seqDiffInvertsAddWrong)

/-- 'stagepostlaw02.SeqWindowSize': WHATEVER THE INPUT: true; the input reads as it did. -/
def seqWindowSizeSpec : ChangeSpec := { name := "seqWindowSize", fn := fun _ => fun
  | [d1, d2, d3] => { results := [.lit (.bool true)], args := [d1, d2, d3] }
  | _ => none }
def seqWindowSizeRow : OpenClaim := { program := "ytjegmldnagdfjaa", sum := "8c1f9c58f7035de9dc3a1436d54ad63147da821a3ebc397562c94753b81e1740", func := "stagepost/stagepostlaw02.SeqWindowSize", spec := "seqWindowSize", unfollowed := true, recurses := true, apart := false }
def SeqWindowSizeSaid : Prop := seqWindowSizeRow.holds Try.pinned (OpenSpec.ofChange seqWindowSizeSpec)

/-- ITS FALSE NEIGHBOUR: 'it returns false'. Refute it at one input. -/
def seqWindowSizeWrong : ChangeSpec := { name := "seqWindowSize", fn := fun _ => fun
  | [d1, d2, d3] => { results := [.lit (.bool false)], args := [d1, d2, d3] }
  | _ => none }
def SeqWindowSizeWrongFalsely : Prop := seqWindowSizeRow.holds Try.pinned (OpenSpec.ofChange seqWindowSizeWrong)

/- THE SECOND FORM. 'bulk': how many values and letters a reading holds, each counted each time it is reached (what is shared counts as often as it is met; a slice's spare places count too). A statement '..UptoSaid' is the law's where the arguments, and the package variables that the reading takes, are together of bulk at most 1048576: NARROWER than '..Said'. Prove '..Said' where nothing that the law and all that it calls make is longer than what came in: it says more and counts as full. Else prove '..UptoSaid'. A law counts once. -/
mutual
def uptoBulk {H : Type} : DataW H → Nat
  | .lit (.string bytes) => bytes.length + 1
  | .lit _ => 1
  | .nil => 1
  | .ptr d => uptoBulk d + 1
  | .slice elems spare => uptoBulkAll elems + uptoBulkAll spare + 1
  | .agg parts => uptoBulkAll parts + 1
  | .iface _ d => uptoBulk d + 1
  | .map entries => uptoBulkEntries entries + 1
  | .held _ => 1
def uptoBulkAll {H : Type} : List (DataW H) → Nat
  | [] => 0
  | d :: r => uptoBulk d + uptoBulkAll r
def uptoBulkEntries {H : Type} : List (Lit × DataW H) → Nat
  | [] => 0
  | x :: r => uptoBulkEntry x + uptoBulkEntries r
def uptoBulkEntry {H : Type} : Lit × DataW H → Nat
  | (.string bytes, d) => bytes.length + uptoBulk d + 1
  | (_, d) => uptoBulk d + 1
 end
def uptoSmall : (H : Type) → List (DataW H) → Bool := fun _ ds => decide (uptoBulkAll ds ≤ 1048576)
def OpenSpec.upto (s : _root_.Go.ChangeSpec) : _root_.Go.OpenSpec := { _root_.Go.OpenSpec.ofChange s with cond := some uptoSmall }

/-- 'stagepostlaw02.SeqMatchesReference', WHERE WHAT IT READS IS OF BULK AT MOST 1048576: true; the input reads as it did. -/
def seqMatchesReferenceUptoRow : OpenClaim := { program := "ytjegmldnagdfjaa", sum := "8c1f9c58f7035de9dc3a1436d54ad63147da821a3ebc397562c94753b81e1740", func := "stagepost/stagepostlaw02.SeqMatchesReference", spec := "seqMatchesReference", unfollowed := true, recurses := true, apart := false, narrowed := true }
def SeqMatchesReferenceUptoSaid : Prop := seqMatchesReferenceUptoRow.holds Try.pinned (OpenSpec.upto seqMatchesReferenceSpec)

/-- 'stagepostlaw02.SeqShiftInvariant', WHERE WHAT IT READS IS OF BULK AT MOST 1048576: true; the input reads as it did. -/
def seqShiftInvariantUptoRow : OpenClaim := { program := "ytjegmldnagdfjaa", sum := "8c1f9c58f7035de9dc3a1436d54ad63147da821a3ebc397562c94753b81e1740", func := "stagepost/stagepostlaw02.SeqShiftInvariant", spec := "seqShiftInvariant", unfollowed := true, recurses := true, apart := false, narrowed := true }
def SeqShiftInvariantUptoSaid : Prop := seqShiftInvariantUptoRow.holds Try.pinned (OpenSpec.upto seqShiftInvariantSpec)

/-- 'stagepostlaw02.SeqDiffInvertsAdd', WHERE WHAT IT READS IS OF BULK AT MOST 1048576: true; the input reads as it did. -/
def seqDiffInvertsAddUptoRow : OpenClaim := { program := "ytjegmldnagdfjaa", sum := "8c1f9c58f7035de9dc3a1436d54ad63147da821a3ebc397562c94753b81e1740", func := "stagepost/stagepostlaw02.SeqDiffInvertsAdd", spec := "seqDiffInvertsAdd", unfollowed := true, recurses := true, apart := false, narrowed := true }
def SeqDiffInvertsAddUptoSaid : Prop := seqDiffInvertsAddUptoRow.holds Try.pinned (OpenSpec.upto seqDiffInvertsAddSpec)

/-- 'stagepostlaw02.SeqWindowSize', WHERE WHAT IT READS IS OF BULK AT MOST 1048576: true; the input reads as it did. -/
def seqWindowSizeUptoRow : OpenClaim := { program := "ytjegmldnagdfjaa", sum := "8c1f9c58f7035de9dc3a1436d54ad63147da821a3ebc397562c94753b81e1740", func := "stagepost/stagepostlaw02.SeqWindowSize", spec := "seqWindowSize", unfollowed := true, recurses := true, apart := false, narrowed := true }
def SeqWindowSizeUptoSaid : Prop := seqWindowSizeUptoRow.holds Try.pinned (OpenSpec.upto seqWindowSizeSpec)

end Rows
end Go.Proofs.Ytjegmldnagdfjaa

/-
  No cell of these rows narrows 'for every input' (looked for: loops, veiled, ifaces, maps, wideKeys, modest, calm, conditions, laid).
  DERIVED. THE GIVEN ROWS OF THIS SEAT. 5 by the template 'for every input the law returns true; each argument reads behind the call as it read before'; 0 by the template 'total and deterministic' (their statements: YtgoakefkiedhmaaTotals.lean).
  GIVEN WITH THE SEED: the statements are not yours to turn. If you find one false, say at which input.
  Laid BY PROGRAM, IN A SANDBOX (cutbox-rows.mjs): the forced cells as the released guide's own fill.sh prints them over the translation d4c4c65b536c19e6… (all of the seat's roots in one cut). By AI agents, Wed Nov 11 2026. No macro, syntax, notation, axiom, sorry.
-/
import Derived.Test.YtgoakefkiedhmaaChecked
import GoSem.Claim
import GoSem.ClaimJoined
import GoSem.ClaimMapViews
import Derived.JoinedTies
import Derived.KernelRfl
namespace Go.Proofs.Ytgoakefkiedhmaa
/- THE CELL 'sum', in the pinned program and in every row, IS THE sha256 OF THE DUMP (.gsa) THAT YtgoakefkiedhmaaProg.lean LOADS. Nothing in Lean hashes anything: it is a label: what it is worth is what the hold of that sum in a sandbox is worth. -/
noncomputable def Try.pinned : Pinned := { name := "ytgoakefkiedhmaa", sum := "d4c4c65b536c19e69835184eec4549252d2056d98a82794e8285c7f8da423012", checked := Try.checked }
namespace Rows
def none {H : Type} : Left H := { results := [], args := [] }

/-- 'stagepostlaw06.IPEncodingMatchesReference': WHATEVER THE INPUT: true; the input reads as it did. -/
def iPEncodingMatchesReferenceSpec : ChangeSpec := { name := "iPEncodingMatchesReference", fn := fun _ => fun
  | [d1, d2, d3, d4] => { results := [.lit (.bool true)], args := [d1, d2, d3, d4] }
  | _ => none }
def iPEncodingMatchesReferenceRow : OpenClaim := { program := "ytgoakefkiedhmaa", sum := "d4c4c65b536c19e69835184eec4549252d2056d98a82794e8285c7f8da423012", func := "stagepost/stagepostlaw06.IPEncodingMatchesReference", spec := "iPEncodingMatchesReference", unfollowed := true, recurses := true, apart := false }
def IPEncodingMatchesReferenceSaid : Prop := iPEncodingMatchesReferenceRow.holds Try.pinned (OpenSpec.ofChange iPEncodingMatchesReferenceSpec)

/-- ITS FALSE NEIGHBOUR: 'it returns false'. Refute it at one input. -/
def iPEncodingMatchesReferenceWrong : ChangeSpec := { name := "iPEncodingMatchesReference", fn := fun _ => fun
  | [d1, d2, d3, d4] => { results := [.lit (.bool false)], args := [d1, d2, d3, d4] }
  | _ => none }
def IPEncodingMatchesReferenceWrongFalsely : Prop := iPEncodingMatchesReferenceRow.holds Try.pinned (OpenSpec.ofChange iPEncodingMatchesReferenceWrong)

/-- 'stagepostlaw06.IPDecodingMatchesReference': WHATEVER THE INPUT: true; the input reads as it did. -/
def iPDecodingMatchesReferenceSpec : ChangeSpec := { name := "iPDecodingMatchesReference", fn := fun _ => fun
  | [d1, d2, d3, d4] => { results := [.lit (.bool true)], args := [d1, d2, d3, d4] }
  | _ => none }
def iPDecodingMatchesReferenceRow : OpenClaim := { program := "ytgoakefkiedhmaa", sum := "d4c4c65b536c19e69835184eec4549252d2056d98a82794e8285c7f8da423012", func := "stagepost/stagepostlaw06.IPDecodingMatchesReference", spec := "iPDecodingMatchesReference", unfollowed := true, recurses := true, apart := false }
def IPDecodingMatchesReferenceSaid : Prop := iPDecodingMatchesReferenceRow.holds Try.pinned (OpenSpec.ofChange iPDecodingMatchesReferenceSpec)

/-- ITS FALSE NEIGHBOUR: 'it returns false'. Refute it at one input. -/
def iPDecodingMatchesReferenceWrong : ChangeSpec := { name := "iPDecodingMatchesReference", fn := fun _ => fun
  | [d1, d2, d3, d4] => { results := [.lit (.bool false)], args := [d1, d2, d3, d4] }
  | _ => none }
def IPDecodingMatchesReferenceWrongFalsely : Prop := iPDecodingMatchesReferenceRow.holds Try.pinned (OpenSpec.ofChange iPDecodingMatchesReferenceWrong)

/-- 'stagepostlaw06.IPRoundTrip': WHATEVER THE INPUT: true; the input reads as it did. -/
def iPRoundTripSpec : ChangeSpec := { name := "iPRoundTrip", fn := fun _ => fun
  | [d1, d2, d3, d4] => { results := [.lit (.bool true)], args := [d1, d2, d3, d4] }
  | _ => none }
def iPRoundTripRow : OpenClaim := { program := "ytgoakefkiedhmaa", sum := "d4c4c65b536c19e69835184eec4549252d2056d98a82794e8285c7f8da423012", func := "stagepost/stagepostlaw06.IPRoundTrip", spec := "iPRoundTrip", unfollowed := true, recurses := true, apart := false }
def IPRoundTripSaid : Prop := iPRoundTripRow.holds Try.pinned (OpenSpec.ofChange iPRoundTripSpec)

/-- ITS FALSE NEIGHBOUR: 'it returns false'. Refute it at one input. -/
def iPRoundTripWrong : ChangeSpec := { name := "iPRoundTrip", fn := fun _ => fun
  | [d1, d2, d3, d4] => { results := [.lit (.bool false)], args := [d1, d2, d3, d4] }
  | _ => none }
def IPRoundTripWrongFalsely : Prop := iPRoundTripRow.holds Try.pinned (OpenSpec.ofChange iPRoundTripWrong)

/-- 'stagepostlaw06.IPFragmentsReassemble': WHATEVER THE INPUT: true; the input reads as it did. -/
def iPFragmentsReassembleSpec : ChangeSpec := { name := "iPFragmentsReassemble", fn := fun _ => fun
  | [d1, d2] => { results := [.lit (.bool true)], args := [d1, d2] }
  | _ => none }
def iPFragmentsReassembleRow : OpenClaim := { program := "ytgoakefkiedhmaa", sum := "d4c4c65b536c19e69835184eec4549252d2056d98a82794e8285c7f8da423012", func := "stagepost/stagepostlaw06.IPFragmentsReassemble", spec := "iPFragmentsReassemble", unfollowed := true, recurses := true, apart := false }
def IPFragmentsReassembleSaid : Prop := iPFragmentsReassembleRow.holds Try.pinned (OpenSpec.ofChange iPFragmentsReassembleSpec)

/-- ITS FALSE NEIGHBOUR: 'it returns false'. Refute it at one input. -/
def iPFragmentsReassembleWrong : ChangeSpec := { name := "iPFragmentsReassemble", fn := fun _ => fun
  | [d1, d2] => { results := [.lit (.bool false)], args := [d1, d2] }
  | _ => none }
def IPFragmentsReassembleWrongFalsely : Prop := iPFragmentsReassembleRow.holds Try.pinned (OpenSpec.ofChange iPFragmentsReassembleWrong)

/-- 'stagepostlaw06.IPRefragmentation': WHATEVER THE INPUT: true; the input reads as it did. -/
def iPRefragmentationSpec : ChangeSpec := { name := "iPRefragmentation", fn := fun _ => fun
  | [d1, d2, d3] => { results := [.lit (.bool true)], args := [d1, d2, d3] }
  | _ => none }
def iPRefragmentationRow : OpenClaim := { program := "ytgoakefkiedhmaa", sum := "d4c4c65b536c19e69835184eec4549252d2056d98a82794e8285c7f8da423012", func := "stagepost/stagepostlaw06.IPRefragmentation", spec := "iPRefragmentation", unfollowed := true, recurses := true, apart := false }
def IPRefragmentationSaid : Prop := iPRefragmentationRow.holds Try.pinned (OpenSpec.ofChange iPRefragmentationSpec)

/-- ITS FALSE NEIGHBOUR: 'it returns false'. Refute it at one input. -/
def iPRefragmentationWrong : ChangeSpec := { name := "iPRefragmentation", fn := fun _ => fun
  | [d1, d2, d3] => { results := [.lit (.bool false)], args := [d1, d2, d3] }
  | _ => none }
def IPRefragmentationWrongFalsely : Prop := iPRefragmentationRow.holds Try.pinned (OpenSpec.ofChange iPRefragmentationWrong)

/- THE SECOND FORM. 'bulk': how many values and letters a reading holds, each counted each time it is reached (what is shared counts as often as it is met; a slice's spare places count too). A statement '..UptoSaid' is the law's where the arguments, and the package variables that the reading takes, are together of bulk at most 1048576: NARROWER than '..Said'. Prove '..Said' where nothing that the law and all that it calls make is longer than what came in: it says more and counts as full. Else prove '..UptoSaid'. A law counts once. -/
mutual
def uptoBulk {H : Type} : DataW H → Nat
  | .lit (.string bytes) => bytes.length + 1
  | .lit _ => 1
  | .nil => 1
  | .ptr d => uptoBulk d + 1
  | .slice elems spare => uptoBulkAll elems + uptoBulkAll spare + 1
  | .agg parts => uptoBulkAll parts + 1
  | .iface _ d => uptoBulk d + 1
  | .map entries => uptoBulkEntries entries + 1
  | .held _ => 1
def uptoBulkAll {H : Type} : List (DataW H) → Nat
  | [] => 0
  | d :: r => uptoBulk d + uptoBulkAll r
def uptoBulkEntries {H : Type} : List (Lit × DataW H) → Nat
  | [] => 0
  | x :: r => uptoBulkEntry x + uptoBulkEntries r
def uptoBulkEntry {H : Type} : Lit × DataW H → Nat
  | (.string bytes, d) => bytes.length + uptoBulk d + 1
  | (_, d) => uptoBulk d + 1
 end
def uptoSmall : (H : Type) → List (DataW H) → Bool := fun _ ds => decide (uptoBulkAll ds ≤ 1048576)
def OpenSpec.upto (s : _root_.Go.ChangeSpec) : _root_.Go.OpenSpec := { _root_.Go.OpenSpec.ofChange s with cond := some uptoSmall }

/-- 'stagepostlaw06.IPEncodingMatchesReference', WHERE WHAT IT READS IS OF BULK AT MOST 1048576: true; the input reads as it did. -/
def iPEncodingMatchesReferenceUptoRow : OpenClaim := { program := "ytgoakefkiedhmaa", sum := "d4c4c65b536c19e69835184eec4549252d2056d98a82794e8285c7f8da423012", func := "stagepost/stagepostlaw06.IPEncodingMatchesReference", spec := "iPEncodingMatchesReference", unfollowed := true, recurses := true, apart := false, narrowed := true }
def IPEncodingMatchesReferenceUptoSaid : Prop := iPEncodingMatchesReferenceUptoRow.holds Try.pinned (OpenSpec.upto iPEncodingMatchesReferenceSpec)

/-- 'stagepostlaw06.IPDecodingMatchesReference', WHERE WHAT IT READS IS OF BULK AT MOST 1048576: true; the input reads as it did. -/
def iPDecodingMatchesReferenceUptoRow : OpenClaim := { program := "ytgoakefkiedhmaa", sum := "d4c4c65b536c19e69835184eec4549252d2056d98a82794e8285c7f8da423012", func := "stagepost/stagepostlaw06.IPDecodingMatchesReference", spec := "iPDecodingMatchesReference", unfollowed := true, recurses := true, apart := false, narrowed := true }
def IPDecodingMatchesReferenceUptoSaid : Prop := iPDecodingMatchesReferenceUptoRow.holds Try.pinned (OpenSpec.upto iPDecodingMatchesReferenceSpec)

/-- 'stagepostlaw06.IPRoundTrip', WHERE WHAT IT READS IS OF BULK AT MOST 1048576: true; the input reads as it did. -/
def iPRoundTripUptoRow : OpenClaim := { program := "ytgoakefkiedhmaa", sum := "d4c4c65b536c19e69835184eec4549252d2056d98a82794e8285c7f8da423012", func := "stagepost/stagepostlaw06.IPRoundTrip", spec := "iPRoundTrip", unfollowed := true, recurses := true, apart := false, narrowed := true }
def IPRoundTripUptoSaid : Prop := iPRoundTripUptoRow.holds Try.pinned (OpenSpec.upto iPRoundTripSpec)

/-- 'stagepostlaw06.IPFragmentsReassemble', WHERE WHAT IT READS IS OF BULK AT MOST 1048576: true; the input reads as it did. -/
def iPFragmentsReassembleUptoRow : OpenClaim := { program := "ytgoakefkiedhmaa", sum := "d4c4c65b536c19e69835184eec4549252d2056d98a82794e8285c7f8da423012", func := "stagepost/stagepostlaw06.IPFragmentsReassemble", spec := "iPFragmentsReassemble", unfollowed := true, recurses := true, apart := false, narrowed := true }
def IPFragmentsReassembleUptoSaid : Prop := iPFragmentsReassembleUptoRow.holds Try.pinned (OpenSpec.upto iPFragmentsReassembleSpec)

/-- 'stagepostlaw06.IPRefragmentation', WHERE WHAT IT READS IS OF BULK AT MOST 1048576: true; the input reads as it did. -/
def iPRefragmentationUptoRow : OpenClaim := { program := "ytgoakefkiedhmaa", sum := "d4c4c65b536c19e69835184eec4549252d2056d98a82794e8285c7f8da423012", func := "stagepost/stagepostlaw06.IPRefragmentation", spec := "iPRefragmentation", unfollowed := true, recurses := true, apart := false, narrowed := true }
def IPRefragmentationUptoSaid : Prop := iPRefragmentationUptoRow.holds Try.pinned (OpenSpec.upto iPRefragmentationSpec)

end Rows
end Go.Proofs.Ytgoakefkiedhmaa

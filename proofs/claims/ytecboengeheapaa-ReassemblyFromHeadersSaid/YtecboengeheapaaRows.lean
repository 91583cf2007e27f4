/-
  No cell of these rows narrows 'for every input' (looked for: loops, veiled, ifaces, maps, wideKeys, modest, calm, conditions, laid).
  DERIVED. THE GIVEN ROWS OF THIS SEAT. 9 by the template 'for every input the law returns true; each argument reads behind the call as it read before'; 0 by the template 'total and deterministic' (their statements: YtecboengeheapaaTotals.lean).
  GIVEN WITH THE SEED: the statements are not yours to turn. If you find one false, say at which input.
  Laid BY PROGRAM, IN A SANDBOX (cutbox-rows.mjs): the forced cells as the released guide's own fill.sh prints them over the translation f568fa4d85ca496d… (all of the seat's roots in one cut). By AI agents, Wed Nov 11 2026. No macro, syntax, notation, axiom, sorry.
-/
import Derived.Test.YtecboengeheapaaChecked
import GoSem.Claim
import GoSem.ClaimJoined
import GoSem.ClaimMapViews
import Derived.JoinedTies
import Derived.KernelRfl
namespace Go.Proofs.Ytecboengeheapaa
/- THE CELL 'sum', in the pinned program and in every row, IS THE sha256 OF THE DUMP (.gsa) THAT YtecboengeheapaaProg.lean LOADS. Nothing in Lean hashes anything: it is a label: what it is worth is what the hold of that sum in a sandbox is worth. -/
noncomputable def Try.pinned : Pinned := { name := "ytecboengeheapaa", sum := "f568fa4d85ca496de159771ad17441e89d7a827bbd11f9481972abd687697f76", checked := Try.checked }
namespace Rows
def none {H : Type} : Left H := { results := [], args := [] }

/-- 'stagepostlaw06.IPEncodingMatchesReference': WHATEVER THE INPUT: true; the input reads as it did. -/
def iPEncodingMatchesReferenceSpec : ChangeSpec := { name := "iPEncodingMatchesReference", fn := fun _ => fun
  | [d1, d2, d3, d4] => { results := [.lit (.bool true)], args := [d1, d2, d3, d4] }
  | _ => none }
def iPEncodingMatchesReferenceRow : OpenClaim := { program := "ytecboengeheapaa", sum := "f568fa4d85ca496de159771ad17441e89d7a827bbd11f9481972abd687697f76", func := "stagepost/stagepostlaw06.IPEncodingMatchesReference", spec := "iPEncodingMatchesReference", unfollowed := true, recurses := true, plainKeys := false, apart := false }
def IPEncodingMatchesReferenceSaid : Prop := iPEncodingMatchesReferenceRow.holds Try.pinned (OpenSpec.ofChange iPEncodingMatchesReferenceSpec)

/-- ITS FALSE NEIGHBOUR: 'it returns false'. Refute it at one input. -/
def iPEncodingMatchesReferenceWrong : ChangeSpec := { name := "iPEncodingMatchesReference", fn := fun _ => fun
  | [d1, d2, d3, d4] => { results := [.lit (.bool false)], args := [d1, d2, d3, d4] }
  | _ => none }
def IPEncodingMatchesReferenceWrongFalsely : Prop := iPEncodingMatchesReferenceRow.holds Try.pinned (OpenSpec.ofChange iPEncodingMatchesReferenceWrong)

/-- 'stagepostlaw06.IPDecodingMatchesReference': WHATEVER THE INPUT: true; the input reads as it did. -/
def iPDecodingMatchesReferenceSpec : ChangeSpec := { name := "iPDecodingMatchesReference", fn := fun _ => fun
  | [d1, d2, d3, d4] => { results := [.lit (.bool true)], args := [d1, d2, d3, d4] }
  | _ => none }
def iPDecodingMatchesReferenceRow : OpenClaim := { program := "ytecboengeheapaa", sum := "f568fa4d85ca496de159771ad17441e89d7a827bbd11f9481972abd687697f76", func := "stagepost/stagepostlaw06.IPDecodingMatchesReference", spec := "iPDecodingMatchesReference", unfollowed := true, recurses := true, plainKeys := false, apart := false }
def IPDecodingMatchesReferenceSaid : Prop := iPDecodingMatchesReferenceRow.holds Try.pinned (OpenSpec.ofChange iPDecodingMatchesReferenceSpec)

/-- ITS FALSE NEIGHBOUR: 'it returns false'. Refute it at one input. -/
def iPDecodingMatchesReferenceWrong : ChangeSpec := { name := "iPDecodingMatchesReference", fn := fun _ => fun
  | [d1, d2, d3, d4] => { results := [.lit (.bool false)], args := [d1, d2, d3, d4] }
  | _ => none }
def IPDecodingMatchesReferenceWrongFalsely : Prop := iPDecodingMatchesReferenceRow.holds Try.pinned (OpenSpec.ofChange iPDecodingMatchesReferenceWrong)

/-- 'stagepostlaw07.ReassemblyExpiryMatchesReference': WHATEVER THE INPUT: true; the input reads as it did. -/
def reassemblyExpiryMatchesReferenceSpec : ChangeSpec := { name := "reassemblyExpiryMatchesReference", fn := fun _ => fun
  | [d1, d2, d3] => { results := [.lit (.bool true)], args := [d1, d2, d3] }
  | _ => none }
def reassemblyExpiryMatchesReferenceRow : OpenClaim := { program := "ytecboengeheapaa", sum := "f568fa4d85ca496de159771ad17441e89d7a827bbd11f9481972abd687697f76", func := "stagepost/stagepostlaw07.ReassemblyExpiryMatchesReference", spec := "reassemblyExpiryMatchesReference", unfollowed := true, recurses := true, plainKeys := false, apart := false }
def ReassemblyExpiryMatchesReferenceSaid : Prop := reassemblyExpiryMatchesReferenceRow.holds Try.pinned (OpenSpec.ofChange reassemblyExpiryMatchesReferenceSpec)

/-- ITS FALSE NEIGHBOUR: 'it returns false'. Refute it at one input. -/
def reassemblyExpiryMatchesReferenceWrong : ChangeSpec := { name := "reassemblyExpiryMatchesReference", fn := fun _ => fun
  | [d1, d2, d3] => { results := [.lit (.bool false)], args := [d1, d2, d3] }
  | _ => none }
def ReassemblyExpiryMatchesReferenceWrongFalsely : Prop := reassemblyExpiryMatchesReferenceRow.holds Try.pinned (OpenSpec.ofChange reassemblyExpiryMatchesReferenceWrong)

/-- 'stagepostlaw07.ReassemblyAnyOrder': WHATEVER THE INPUT: true; the input reads as it did. -/
def reassemblyAnyOrderSpec : ChangeSpec := { name := "reassemblyAnyOrder", fn := fun _ => fun
  | [d1, d2, d3] => { results := [.lit (.bool true)], args := [d1, d2, d3] }
  | _ => none }
def reassemblyAnyOrderRow : OpenClaim := { program := "ytecboengeheapaa", sum := "f568fa4d85ca496de159771ad17441e89d7a827bbd11f9481972abd687697f76", func := "stagepost/stagepostlaw07.ReassemblyAnyOrder", spec := "reassemblyAnyOrder", unfollowed := true, recurses := true, plainKeys := false, apart := false }
def ReassemblyAnyOrderSaid : Prop := reassemblyAnyOrderRow.holds Try.pinned (OpenSpec.ofChange reassemblyAnyOrderSpec)

/-- ITS FALSE NEIGHBOUR: 'it returns false'. Refute it at one input. -/
def reassemblyAnyOrderWrong : ChangeSpec := { name := "reassemblyAnyOrder", fn := fun _ => fun
  | [d1, d2, d3] => { results := [.lit (.bool false)], args := [d1, d2, d3] }
  | _ => none }
def ReassemblyAnyOrderWrongFalsely : Prop := reassemblyAnyOrderRow.holds Try.pinned (OpenSpec.ofChange reassemblyAnyOrderWrong)

/-- 'stagepostlaw07.ReassemblyIndependent': WHATEVER THE INPUT: true; the input reads as it did. -/
def reassemblyIndependentSpec : ChangeSpec := { name := "reassemblyIndependent", fn := fun _ => fun
  | [d1, d2, d3] => { results := [.lit (.bool true)], args := [d1, d2, d3] }
  | _ => none }
def reassemblyIndependentRow : OpenClaim := { program := "ytecboengeheapaa", sum := "f568fa4d85ca496de159771ad17441e89d7a827bbd11f9481972abd687697f76", func := "stagepost/stagepostlaw07.ReassemblyIndependent", spec := "reassemblyIndependent", unfollowed := true, recurses := true, plainKeys := false, apart := false }
def ReassemblyIndependentSaid : Prop := reassemblyIndependentRow.holds Try.pinned (OpenSpec.ofChange reassemblyIndependentSpec)

/-- ITS FALSE NEIGHBOUR: 'it returns false'. Refute it at one input. -/
def reassemblyIndependentWrong : ChangeSpec := { name := "reassemblyIndependent", fn := fun _ => fun
  | [d1, d2, d3] => { results := [.lit (.bool false)], args := [d1, d2, d3] }
  | _ => none }
def ReassemblyIndependentWrongFalsely : Prop := reassemblyIndependentRow.holds Try.pinned (OpenSpec.ofChange reassemblyIndependentWrong)

/-- 'stagepostlaw07.ReassemblyRejectsConflicts': WHATEVER THE INPUT: true; the input reads as it did. -/
def reassemblyRejectsConflictsSpec : ChangeSpec := { name := "reassemblyRejectsConflicts", fn := fun _ => fun
  | [d1, d2, d3] => { results := [.lit (.bool true)], args := [d1, d2, d3] }
  | _ => none }
def reassemblyRejectsConflictsRow : OpenClaim := { program := "ytecboengeheapaa", sum := "f568fa4d85ca496de159771ad17441e89d7a827bbd11f9481972abd687697f76", func := "stagepost/stagepostlaw07.ReassemblyRejectsConflicts", spec := "reassemblyRejectsConflicts", unfollowed := true, recurses := true, plainKeys := false, apart := false }
def ReassemblyRejectsConflictsSaid : Prop := reassemblyRejectsConflictsRow.holds Try.pinned (OpenSpec.ofChange reassemblyRejectsConflictsSpec)

/-- ITS FALSE NEIGHBOUR: 'it returns false'. Refute it at one input. -/
def reassemblyRejectsConflictsWrong : ChangeSpec := { name := "reassemblyRejectsConflicts", fn := fun _ => fun
  | [d1, d2, d3] => { results := [.lit (.bool false)], args := [d1, d2, d3] }
  | _ => none }
def ReassemblyRejectsConflictsWrongFalsely : Prop := reassemblyRejectsConflictsRow.holds Try.pinned (OpenSpec.ofChange reassemblyRejectsConflictsWrong)

/-- 'stagepostlaw07.ReassemblyBounded': WHATEVER THE INPUT: true; the input reads as it did. -/
def reassemblyBoundedSpec : ChangeSpec := { name := "reassemblyBounded", fn := fun _ => fun
  | [d] => { results := [.lit (.bool true)], args := [d] }
  | _ => none }
def reassemblyBoundedRow : OpenClaim := { program := "ytecboengeheapaa", sum := "f568fa4d85ca496de159771ad17441e89d7a827bbd11f9481972abd687697f76", func := "stagepost/stagepostlaw07.ReassemblyBounded", spec := "reassemblyBounded", unfollowed := true, recurses := true, plainKeys := false, apart := false }
def ReassemblyBoundedSaid : Prop := reassemblyBoundedRow.holds Try.pinned (OpenSpec.ofChange reassemblyBoundedSpec)

/-- ITS FALSE NEIGHBOUR: 'it returns false'. Refute it at one input. -/
def reassemblyBoundedWrong : ChangeSpec := { name := "reassemblyBounded", fn := fun _ => fun
  | [d] => { results := [.lit (.bool false)], args := [d] }
  | _ => none }
def ReassemblyBoundedWrongFalsely : Prop := reassemblyBoundedRow.holds Try.pinned (OpenSpec.ofChange reassemblyBoundedWrong)

/-- 'stagepostlaw07.ReassemblyExpiresOnce': WHATEVER THE INPUT: true; the input reads as it did. -/
def reassemblyExpiresOnceSpec : ChangeSpec := { name := "reassemblyExpiresOnce", fn := fun _ => fun
  | [d] => { results := [.lit (.bool true)], args := [d] }
  | _ => none }
def reassemblyExpiresOnceRow : OpenClaim := { program := "ytecboengeheapaa", sum := "f568fa4d85ca496de159771ad17441e89d7a827bbd11f9481972abd687697f76", func := "stagepost/stagepostlaw07.ReassemblyExpiresOnce", spec := "reassemblyExpiresOnce", unfollowed := true, recurses := true, plainKeys := false, apart := false }
def ReassemblyExpiresOnceSaid : Prop := reassemblyExpiresOnceRow.holds Try.pinned (OpenSpec.ofChange reassemblyExpiresOnceSpec)

/-- ITS FALSE NEIGHBOUR: 'it returns false'. Refute it at one input. -/
def reassemblyExpiresOnceWrong : ChangeSpec := { name := "reassemblyExpiresOnce", fn := fun _ => fun
  | [d] => { results := [.lit (.bool false)], args := [d] }
  | _ => none }
def ReassemblyExpiresOnceWrongFalsely : Prop := reassemblyExpiresOnceRow.holds Try.pinned (OpenSpec.ofChange reassemblyExpiresOnceWrong)

/-- 'stagepostlaw07.ReassemblyFromHeaders': WHATEVER THE INPUT: true; the input reads as it did. -/
def reassemblyFromHeadersSpec : ChangeSpec := { name := "reassemblyFromHeaders", fn := fun _ => fun
  | [d1, d2] => { results := [.lit (.bool true)], args := [d1, d2] }
  | _ => none }
def reassemblyFromHeadersRow : OpenClaim := { program := "ytecboengeheapaa", sum := "f568fa4d85ca496de159771ad17441e89d7a827bbd11f9481972abd687697f76", func := "stagepost/stagepostlaw07.ReassemblyFromHeaders", spec := "reassemblyFromHeaders", unfollowed := true, recurses := true, plainKeys := false, apart := false }
def ReassemblyFromHeadersSaid : Prop := reassemblyFromHeadersRow.holds Try.pinned (OpenSpec.ofChange reassemblyFromHeadersSpec)

/-- ITS FALSE NEIGHBOUR: 'it returns false'. Refute it at one input. -/
def reassemblyFromHeadersWrong : ChangeSpec := { name := "reassemblyFromHeaders", fn := fun _ => fun
  | [d1, d2] => { results := [.lit (.bool false)], args := [d1, d2] }
  | _ => none }
def ReassemblyFromHeadersWrongFalsely : Prop := reassemblyFromHeadersRow.holds Try.pinned (OpenSpec.ofChange reassemblyFromHeadersWrong)

/- THE SECOND FORM. 'bulk': how many values and letters a reading holds, each counted each time it is reached (what is shared counts as often as it is met; a slice's spare places count too). A statement '..UptoSaid' is the law's where the arguments, and the package variables that the reading takes, are together of bulk at most 1048576: NARROWER than '..Said'. Prove '..Said' where nothing that the law and all that it calls make is longer than what came in: it says more and counts as full. Else prove '..UptoSaid'. A law counts once. -/
mutual
def uptoBulk {H : Type} : DataW H → Nat
  | .lit (.string bytes) => bytes.length + 1
  | .lit _ => 1
  | .nil => 1
  | .ptr d => uptoBulk d + 1
  | .slice elems spare => uptoBulkAll elems + uptoBulkAll spare + 1
  | .agg parts => uptoBulkAll parts + 1
  | .iface _ d => uptoBulk d + 1
  | .map entries => uptoBulkEntries entries + 1
  | .held _ => 1
def uptoBulkAll {H : Type} : List (DataW H) → Nat
  | [] => 0
  | d :: r => uptoBulk d + uptoBulkAll r
def uptoBulkEntries {H : Type} : List (Lit × DataW H) → Nat
  | [] => 0
  | x :: r => uptoBulkEntry x + uptoBulkEntries r
def uptoBulkEntry {H : Type} : Lit × DataW H → Nat
  | (.string bytes, d) => bytes.length + uptoBulk d + 1
  | (_, d) => uptoBulk d + 1
 end
def uptoSmall : (H : Type) → List (DataW H) → Bool := fun _ ds => decide (uptoBulkAll ds ≤ 1048576)
def OpenSpec.upto (s : _root_.Go.ChangeSpec) : _root_.Go.OpenSpec := { _root_.Go.OpenSpec.ofChange s with cond := some uptoSmall }

/-- 'stagepostlaw06.IPEncodingMatchesReference', WHERE WHAT IT READS IS OF BULK AT MOST 1048576: true; the input reads as it did. -/
def iPEncodingMatchesReferenceUptoRow : OpenClaim := { program := "ytecboengeheapaa", sum := "f568fa4d85ca496de159771ad17441e89d7a827bbd11f9481972abd687697f76", func := "stagepost/stagepostlaw06.IPEncodingMatchesReference", spec := "iPEncodingMatchesReference", unfollowed := true, recurses := true, plainKeys := false, apart := false, narrowed := true }
def IPEncodingMatchesReferenceUptoSaid : Prop := iPEncodingMatchesReferenceUptoRow.holds Try.pinned (OpenSpec.upto iPEncodingMatchesReferenceSpec)

/-- 'stagepostlaw06.IPDecodingMatchesReference', WHERE WHAT IT READS IS OF BULK AT MOST 1048576: true; the input reads as it did. -/
def iPDecodingMatchesReferenceUptoRow : OpenClaim := { program := "ytecboengeheapaa", sum := "f568fa4d85ca496de159771ad17441e89d7a827bbd11f9481972abd687697f76", func := "stagepost/stagepostlaw06.IPDecodingMatchesReference", spec := "iPDecodingMatchesReference", unfollowed := true, recurses := true, plainKeys := false, apart := false, narrowed := true }
def IPDecodingMatchesReferenceUptoSaid : Prop := iPDecodingMatchesReferenceUptoRow.holds Try.pinned (OpenSpec.upto iPDecodingMatchesReferenceSpec)

/-- 'stagepostlaw07.ReassemblyExpiryMatchesReference', WHERE WHAT IT READS IS OF BULK AT MOST 1048576: true; the input reads as it did. -/
def reassemblyExpiryMatchesReferenceUptoRow : OpenClaim := { program := "ytecboengeheapaa", sum := "f568fa4d85ca496de159771ad17441e89d7a827bbd11f9481972abd687697f76", func := "stagepost/stagepostlaw07.ReassemblyExpiryMatchesReference", spec := "reassemblyExpiryMatchesReference", unfollowed := true, recurses := true, plainKeys := false, apart := false, narrowed := true }
def ReassemblyExpiryMatchesReferenceUptoSaid : Prop := reassemblyExpiryMatchesReferenceUptoRow.holds Try.pinned (OpenSpec.upto reassemblyExpiryMatchesReferenceSpec)

/-- 'stagepostlaw07.ReassemblyAnyOrder', WHERE WHAT IT READS IS OF BULK AT MOST 1048576: true; the input reads as it did. -/
def reassemblyAnyOrderUptoRow : OpenClaim := { program := "ytecboengeheapaa", sum := "f568fa4d85ca496de159771ad17441e89d7a827bbd11f9481972abd687697f76", func := "stagepost/stagepostlaw07.ReassemblyAnyOrder", spec := "reassemblyAnyOrder", unfollowed := true, recurses := true, plainKeys := false, apart := false, narrowed := true }
def ReassemblyAnyOrderUptoSaid : Prop := reassemblyAnyOrderUptoRow.holds Try.pinned (OpenSpec.upto reassemblyAnyOrderSpec)

/-- 'stagepostlaw07.ReassemblyIndependent', WHERE WHAT IT READS IS OF BULK AT MOST 1048576: true; the input reads as it did. -/
def reassemblyIndependentUptoRow : OpenClaim := { program := "ytecboengeheapaa", sum := "f568fa4d85ca496de159771ad17441e89d7a827bbd11f9481972abd687697f76", func := "stagepost/stagepostlaw07.ReassemblyIndependent", spec := "reassemblyIndependent", unfollowed := true, recurses := true, plainKeys := false, apart := false, narrowed := true }
def ReassemblyIndependentUptoSaid : Prop := reassemblyIndependentUptoRow.holds Try.pinned (OpenSpec.upto reassemblyIndependentSpec)

/-- 'stagepostlaw07.ReassemblyRejectsConflicts', WHERE WHAT IT READS IS OF BULK AT MOST 1048576: true; the input reads as it did. -/
def reassemblyRejectsConflictsUptoRow : OpenClaim := { program := "ytecboengeheapaa", sum := "f568fa4d85ca496de159771ad17441e89d7a827bbd11f9481972abd687697f76", func := "stagepost/stagepostlaw07.ReassemblyRejectsConflicts", spec := "reassemblyRejectsConflicts", unfollowed := true, recurses := true, plainKeys := false, apart := false, narrowed := true }
def ReassemblyRejectsConflictsUptoSaid : Prop := reassemblyRejectsConflictsUptoRow.holds Try.pinned (OpenSpec.upto reassemblyRejectsConflictsSpec)

/-- 'stagepostlaw07.ReassemblyBounded', WHERE WHAT IT READS IS OF BULK AT MOST 1048576: true; the input reads as it did. -/
def reassemblyBoundedUptoRow : OpenClaim := { program := "ytecboengeheapaa", sum := "f568fa4d85ca496de159771ad17441e89d7a827bbd11f9481972abd687697f76", func := "stagepost/stagepostlaw07.ReassemblyBounded", spec := "reassemblyBounded", unfollowed := true, recurses := true, plainKeys := false, apart := false, narrowed := true }
def ReassemblyBoundedUptoSaid : Prop := reassemblyBoundedUptoRow.holds Try.pinned (OpenSpec.upto reassemblyBoundedSpec)

/-- 'stagepostlaw07.ReassemblyExpiresOnce', WHERE WHAT IT READS IS OF BULK AT MOST 1048576: true; the input reads as it did. -/
def reassemblyExpiresOnceUptoRow : OpenClaim := { program := "ytecboengeheapaa", sum := "f568fa4d85ca496de159771ad17441e89d7a827bbd11f9481972abd687697f76", func := "stagepost/stagepostlaw07.ReassemblyExpiresOnce", spec := "reassemblyExpiresOnce", unfollowed := true, recurses := true, plainKeys := false, apart := false, narrowed := true }
def ReassemblyExpiresOnceUptoSaid : Prop := reassemblyExpiresOnceUptoRow.holds Try.pinned (OpenSpec.upto reassemblyExpiresOnceSpec)

/-- 'stagepostlaw07.ReassemblyFromHeaders', WHERE WHAT IT READS IS OF BULK AT MOST 1048576: true; the input reads as it did. -/
def reassemblyFromHeadersUptoRow : OpenClaim := { program := "ytecboengeheapaa", sum := "f568fa4d85ca496de159771ad17441e89d7a827bbd11f9481972abd687697f76", func := "stagepost/stagepostlaw07.ReassemblyFromHeaders", spec := "reassemblyFromHeaders", unfollowed := true, recurses := true, plainKeys := false, apart := false, narrowed := true }
def ReassemblyFromHeadersUptoSaid : Prop := reassemblyFromHeadersUptoRow.holds Try.pinned (OpenSpec.upto reassemblyFromHeadersSpec)

end Rows
end Go.Proofs.Ytecboengeheapaa

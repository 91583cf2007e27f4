/-
  No cell of these rows narrows 'for every input' (looked for: loops, veiled, ifaces, maps, wideKeys, modest, calm, conditions, laid).
  DERIVED. THE GIVEN ROWS OF THIS SEAT. 5 by the template 'for every input the law returns true; each argument reads behind the call as it read before'; 0 by the template 'total and deterministic' (their statements: YtgfcpimklmgnbaaTotals.lean).
  GIVEN WITH THE SEED: the statements are not yours to turn. If you find one false, say at which input.
  Laid BY PROGRAM, IN A SANDBOX (cutbox-rows.mjs): the forced cells as the released guide's own fill.sh prints them over the translation 0a0ab285063d1a18… (all of the seat's roots in one cut). By AI agents, Wed Nov 11 2026. No macro, syntax, notation, axiom, sorry.
-/
import Derived.Test.YtgfcpimklmgnbaaChecked
import GoSem.Claim
import GoSem.ClaimJoined
import GoSem.ClaimMapViews
import Derived.JoinedTies
import Derived.KernelRfl
namespace Go.Proofs.Ytgfcpimklmgnbaa
/- THE CELL 'sum', in the pinned program and in every row, IS THE sha256 OF THE DUMP (.gsa) THAT YtgfcpimklmgnbaaProg.lean LOADS. Nothing in Lean hashes anything: it is a label: what it is worth is what the hold of that sum in a sandbox is worth. -/
noncomputable def Try.pinned : Pinned := { name := "ytgfcpimklmgnbaa", sum := "0a0ab285063d1a1824b01722d360e76abc39bbb17d478a310a317b66101785ed", checked := Try.checked }
namespace Rows
def none {H : Type} : Left H := { results := [], args := [] }

/-- 'stagepostlaw09.RouteMatchesReference': WHATEVER THE INPUT: true; the input reads as it did. -/
def routeMatchesReferenceSpec : ChangeSpec := { name := "routeMatchesReference", fn := fun _ => fun
  | [d1, d2, d3, d4, d5, d6] => { results := [.lit (.bool true)], args := [d1, d2, d3, d4, d5, d6] }
  | _ => none }
def routeMatchesReferenceRow : OpenClaim := { program := "ytgfcpimklmgnbaa", sum := "0a0ab285063d1a1824b01722d360e76abc39bbb17d478a310a317b66101785ed", func := "stagepost/stagepostlaw09.RouteMatchesReference", spec := "routeMatchesReference", unfollowed := true, recurses := true, apart := false }
def RouteMatchesReferenceSaid : Prop := routeMatchesReferenceRow.holds Try.pinned (OpenSpec.ofChange routeMatchesReferenceSpec)

/-- ITS FALSE NEIGHBOUR: 'it returns false'. Refute it at one input. -/
def routeMatchesReferenceWrong : ChangeSpec := { name := "routeMatchesReference", fn := fun _ => fun
  | [d1, d2, d3, d4, d5, d6] => { results := [.lit (.bool false)], args := [d1, d2, d3, d4, d5, d6] }
  | _ => none }
def RouteMatchesReferenceWrongFalsely : Prop := routeMatchesReferenceRow.holds Try.pinned (OpenSpec.ofChange routeMatchesReferenceWrong)

/-- 'stagepostlaw09.RouteLongestPrefix': WHATEVER THE INPUT: true; the input reads as it did. -/
def routeLongestPrefixSpec : ChangeSpec := { name := "routeLongestPrefix", fn := fun _ => fun
  | [d1, d2, d3] => { results := [.lit (.bool true)], args := [d1, d2, d3] }
  | _ => none }
def routeLongestPrefixRow : OpenClaim := { program := "ytgfcpimklmgnbaa", sum := "0a0ab285063d1a1824b01722d360e76abc39bbb17d478a310a317b66101785ed", func := "stagepost/stagepostlaw09.RouteLongestPrefix", spec := "routeLongestPrefix", unfollowed := true, recurses := true, apart := false }
def RouteLongestPrefixSaid : Prop := routeLongestPrefixRow.holds Try.pinned (OpenSpec.ofChange routeLongestPrefixSpec)

/-- ITS FALSE NEIGHBOUR: 'it returns false'. Refute it at one input. -/
def routeLongestPrefixWrong : ChangeSpec := { name := "routeLongestPrefix", fn := fun _ => fun
  | [d1, d2, d3] => { results := [.lit (.bool false)], args := [d1, d2, d3] }
  | _ => none }
def RouteLongestPrefixWrongFalsely : Prop := routeLongestPrefixRow.holds Try.pinned (OpenSpec.ofChange routeLongestPrefixWrong)

/-- 'stagepostlaw09.RouteHostRoute': WHATEVER THE INPUT: true; the input reads as it did. -/
def routeHostRouteSpec : ChangeSpec := { name := "routeHostRoute", fn := fun _ => fun
  | [d1, d2, d3, d4, d5] => { results := [.lit (.bool true)], args := [d1, d2, d3, d4, d5] }
  | _ => none }
def routeHostRouteRow : OpenClaim := { program := "ytgfcpimklmgnbaa", sum := "0a0ab285063d1a1824b01722d360e76abc39bbb17d478a310a317b66101785ed", func := "stagepost/stagepostlaw09.RouteHostRoute", spec := "routeHostRoute", unfollowed := true, recurses := true, apart := false }
def RouteHostRouteSaid : Prop := routeHostRouteRow.holds Try.pinned (OpenSpec.ofChange routeHostRouteSpec)

/-- ITS FALSE NEIGHBOUR: 'it returns false'. Refute it at one input. -/
def routeHostRouteWrong : ChangeSpec := { name := "routeHostRoute", fn := fun _ => fun
  | [d1, d2, d3, d4, d5] => { results := [.lit (.bool false)], args := [d1, d2, d3, d4, d5] }
  | _ => none }
def RouteHostRouteWrongFalsely : Prop := routeHostRouteRow.holds Try.pinned (OpenSpec.ofChange routeHostRouteWrong)

/-- 'stagepostlaw09.RouteOrderIndependent': WHATEVER THE INPUT: true; the input reads as it did. -/
def routeOrderIndependentSpec : ChangeSpec := { name := "routeOrderIndependent", fn := fun _ => fun
  | [d1, d2, d3] => { results := [.lit (.bool true)], args := [d1, d2, d3] }
  | _ => none }
def routeOrderIndependentRow : OpenClaim := { program := "ytgfcpimklmgnbaa", sum := "0a0ab285063d1a1824b01722d360e76abc39bbb17d478a310a317b66101785ed", func := "stagepost/stagepostlaw09.RouteOrderIndependent", spec := "routeOrderIndependent", unfollowed := true, recurses := true, apart := false }
def RouteOrderIndependentSaid : Prop := routeOrderIndependentRow.holds Try.pinned (OpenSpec.ofChange routeOrderIndependentSpec)

/-- ITS FALSE NEIGHBOUR: 'it returns false'. Refute it at one input. -/
def routeOrderIndependentWrong : ChangeSpec := { name := "routeOrderIndependent", fn := fun _ => fun
  | [d1, d2, d3] => { results := [.lit (.bool false)], args := [d1, d2, d3] }
  | _ => none }
def RouteOrderIndependentWrongFalsely : Prop := routeOrderIndependentRow.holds Try.pinned (OpenSpec.ofChange routeOrderIndependentWrong)

/-- 'stagepostlaw09.RouteOnLink': WHATEVER THE INPUT: true; the input reads as it did. -/
def routeOnLinkSpec : ChangeSpec := { name := "routeOnLink", fn := fun _ => fun
  | [d1, d2, d3] => { results := [.lit (.bool true)], args := [d1, d2, d3] }
  | _ => none }
def routeOnLinkRow : OpenClaim := { program := "ytgfcpimklmgnbaa", sum := "0a0ab285063d1a1824b01722d360e76abc39bbb17d478a310a317b66101785ed", func := "stagepost/stagepostlaw09.RouteOnLink", spec := "routeOnLink", unfollowed := true, recurses := true, apart := false }
def RouteOnLinkSaid : Prop := routeOnLinkRow.holds Try.pinned (OpenSpec.ofChange routeOnLinkSpec)

/-- ITS FALSE NEIGHBOUR: 'it returns false'. Refute it at one input. -/
def routeOnLinkWrong : ChangeSpec := { name := "routeOnLink", fn := fun _ => fun
  | [d1, d2, d3] => { results := [.lit (.bool false)], args := [d1, d2, d3] }
  | _ => none }
def RouteOnLinkWrongFalsely : Prop := routeOnLinkRow.holds Try.pinned (OpenSpec.ofChange routeOnLinkWrong)

/- THE SECOND FORM. 'bulk': how many values and letters a reading holds, each counted each time it is reached (what is shared counts as often as it is met; a slice's spare places count too). A statement '..UptoSaid' is the law's where the arguments, and the package variables that the reading takes, are together of bulk at most 1048576: NARROWER than '..Said'. Prove '..Said' where nothing that the law and all that it calls make is longer than what came in: it says more and counts as full. Else prove '..UptoSaid'. A law counts once. -/
mutual
def uptoBulk {H : Type} : DataW H → Nat
  | .lit (.string bytes) => bytes.length + 1
  | .lit _ => 1
  | .nil => 1
  | .ptr d => uptoBulk d + 1
  | .slice elems spare => uptoBulkAll elems + uptoBulkAll spare + 1
  | .agg parts => uptoBulkAll parts + 1
  | .iface _ d => uptoBulk d + 1
  | .map entries => uptoBulkEntries entries + 1
  | .held _ => 1
def uptoBulkAll {H : Type} : List (DataW H) → Nat
  | [] => 0
  | d :: r => uptoBulk d + uptoBulkAll r
def uptoBulkEntries {H : Type} : List (Lit × DataW H) → Nat
  | [] => 0
  | x :: r => uptoBulkEntry x + uptoBulkEntries r
def uptoBulkEntry {H : Type} : Lit × DataW H → Nat
  | (.string bytes, d) => bytes.length + uptoBulk d + 1
  | (_, d) => uptoBulk d + 1
 end
def uptoSmall : (H : Type) → List (DataW H) → Bool := fun _ ds => decide (uptoBulkAll ds ≤ 1048576)
def OpenSpec.upto (s : _root_.Go.ChangeSpec) : _root_.Go.OpenSpec := { _root_.Go.OpenSpec.ofChange s with cond := some uptoSmall }

/-- 'stagepostlaw09.RouteMatchesReference', WHERE WHAT IT READS IS OF BULK AT MOST 1048576: true; the input reads as it did. -/
def routeMatchesReferenceUptoRow : OpenClaim := { program := "ytgfcpimklmgnbaa", sum := "0a0ab285063d1a1824b01722d360e76abc39bbb17d478a310a317b66101785ed", func := "stagepost/stagepostlaw09.RouteMatchesReference", spec := "routeMatchesReference", unfollowed := true, recurses := true, apart := false, narrowed := true }
def RouteMatchesReferenceUptoSaid : Prop := routeMatchesReferenceUptoRow.holds Try.pinned (OpenSpec.upto routeMatchesReferenceSpec)

/-- 'stagepostlaw09.RouteLongestPrefix', WHERE WHAT IT READS IS OF BULK AT MOST 1048576: true; the input reads as it did. -/
def routeLongestPrefixUptoRow : OpenClaim := { program := "ytgfcpimklmgnbaa", sum := "0a0ab285063d1a1824b01722d360e76abc39bbb17d478a310a317b66101785ed", func := "stagepost/stagepostlaw09.RouteLongestPrefix", spec := "routeLongestPrefix", unfollowed := true, recurses := true, apart := false, narrowed := true }
def RouteLongestPrefixUptoSaid : Prop := routeLongestPrefixUptoRow.holds Try.pinned (OpenSpec.upto routeLongestPrefixSpec)

/-- 'stagepostlaw09.RouteHostRoute', WHERE WHAT IT READS IS OF BULK AT MOST 1048576: true; the input reads as it did. -/
def routeHostRouteUptoRow : OpenClaim := { program := "ytgfcpimklmgnbaa", sum := "0a0ab285063d1a1824b01722d360e76abc39bbb17d478a310a317b66101785ed", func := "stagepost/stagepostlaw09.RouteHostRoute", spec := "routeHostRoute", unfollowed := true, recurses := true, apart := false, narrowed := true }
def RouteHostRouteUptoSaid : Prop := routeHostRouteUptoRow.holds Try.pinned (OpenSpec.upto routeHostRouteSpec)

/-- 'stagepostlaw09.RouteOrderIndependent', WHERE WHAT IT READS IS OF BULK AT MOST 1048576: true; the input reads as it did. -/
def routeOrderIndependentUptoRow : OpenClaim := { program := "ytgfcpimklmgnbaa", sum := "0a0ab285063d1a1824b01722d360e76abc39bbb17d478a310a317b66101785ed", func := "stagepost/stagepostlaw09.RouteOrderIndependent", spec := "routeOrderIndependent", unfollowed := true, recurses := true, apart := false, narrowed := true }
def RouteOrderIndependentUptoSaid : Prop := routeOrderIndependentUptoRow.holds Try.pinned (OpenSpec.upto routeOrderIndependentSpec)

/-- 'stagepostlaw09.RouteOnLink', WHERE WHAT IT READS IS OF BULK AT MOST 1048576: true; the input reads as it did. -/
def routeOnLinkUptoRow : OpenClaim := { program := "ytgfcpimklmgnbaa", sum := "0a0ab285063d1a1824b01722d360e76abc39bbb17d478a310a317b66101785ed", func := "stagepost/stagepostlaw09.RouteOnLink", spec := "routeOnLink", unfollowed := true, recurses := true, apart := false, narrowed := true }
def RouteOnLinkUptoSaid : Prop := routeOnLinkUptoRow.holds Try.pinned (OpenSpec.upto routeOnLinkSpec)

end Rows
end Go.Proofs.Ytgfcpimklmgnbaa

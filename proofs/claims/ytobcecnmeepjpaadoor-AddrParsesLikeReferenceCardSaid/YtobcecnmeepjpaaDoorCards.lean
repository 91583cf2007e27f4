/-
  DERIVED. GIVEN WITH THE SEED: THE CARDS: each row of YtobcecnmeepjpaaDoorRows.lean that lists a variable, with what it lists TIED to the program's text (the seventh form; the later family's looks); each row that meets fmt, with fmt's text TOLD by the authors' own Lean function (tested against real Go, not proved from fmt's source: count such statements apart). THE CARD IS WHAT COUNTS. Prove the row's statement (the work); the ties are given (YtobcecnmeepjpaaDoorTie.lean); close each card by the builder's one call (the guide's Derived/Test/ToyasCard.lean, 'card_holds'). Laid BY PROGRAM, IN A SANDBOX (cutbox-door.mjs). By AI agents, Wed Nov 11 2026. No macro, syntax, notation, axiom, sorry.
-/
import Derived.Test.YtobcecnmeepjpaaDoorRows
import GoSem.ClaimSeven
namespace Go.Proofs.YtobcecnmeepjpaaDoor
namespace Rows

/-- THE TIED CARD OF 'stagepostlaw03.AddrMatchesReference'. -/
def addrMatchesReferenceCard : Claim7 := { stood := { row := addrMatchesReferenceRow, standIns := [], harness := (true, "345bf1854015731f8c3da04ff7a255cb0a035a86b454a72b79fa27f5e239be83"), looks := true }, kinds := [], alts := [], laidByText := true, laidKinds := [.data, .data, .data, .data, .sentinel, .sentinel, .pinned], laidTests := true, laidLooks := .later }
def AddrMatchesReferenceCardSaid : Prop := Claim7.holds Tryd.pinned (.plain (OpenSpec.ofChange addrMatchesReferenceSpec)) addrMatchesReferenceCard

/-- THE TIED CARD OF 'stagepostlaw03.AddrParsesLikeReference'. -/
def addrParsesLikeReferenceCard : Claim7 := { stood := { row := addrParsesLikeReferenceRow, standIns := [], harness := (true, "345bf1854015731f8c3da04ff7a255cb0a035a86b454a72b79fa27f5e239be83"), looks := true }, kinds := [], alts := [], laidByText := true, laidKinds := [.data, .data, .data, .data, .sentinel, .sentinel, .pinned], laidTests := true, laidLooks := .later }
def AddrParsesLikeReferenceCardSaid : Prop := Claim7.holds Tryd.pinned (.plain (OpenSpec.ofChange addrParsesLikeReferenceSpec)) addrParsesLikeReferenceCard

/-- THE TIED CARD OF 'stagepostlaw03.AddrRoundTrip'. -/
def addrRoundTripCard : Claim7 := { stood := { row := addrRoundTripRow, standIns := [], harness := (true, "345bf1854015731f8c3da04ff7a255cb0a035a86b454a72b79fa27f5e239be83"), looks := true }, kinds := [], alts := [], laidByText := true, laidKinds := [.data, .data, .data, .data, .sentinel, .sentinel, .pinned], laidTests := true, laidLooks := .later }
def AddrRoundTripCardSaid : Prop := Claim7.holds Tryd.pinned (.plain (OpenSpec.ofChange addrRoundTripSpec)) addrRoundTripCard

/-- THE TIED CARD OF 'stagepostlaw03.AddrPrefixIsInterval'. -/
def addrPrefixIsIntervalCard : Claim7 := { stood := { row := addrPrefixIsIntervalRow, standIns := [], harness := (true, "345bf1854015731f8c3da04ff7a255cb0a035a86b454a72b79fa27f5e239be83"), looks := true }, kinds := [], alts := [], laidByText := true, laidKinds := [.data, .data, .data, .data, .sentinel, .sentinel, .pinned], laidTests := true, laidLooks := .later }
def AddrPrefixIsIntervalCardSaid : Prop := Claim7.holds Tryd.pinned (.plain (OpenSpec.ofChange addrPrefixIsIntervalSpec)) addrPrefixIsIntervalCard

/-- THE TIED CARD OF 'stagepostlaw03.AddrPrefixesNestOrDisjoint'. -/
def addrPrefixesNestOrDisjointCard : Claim7 := { stood := { row := addrPrefixesNestOrDisjointRow, standIns := [], harness := (true, "345bf1854015731f8c3da04ff7a255cb0a035a86b454a72b79fa27f5e239be83"), looks := true }, kinds := [], alts := [], laidByText := true, laidKinds := [.data, .data, .data, .data, .sentinel, .sentinel, .pinned], laidTests := true, laidLooks := .later }
def AddrPrefixesNestOrDisjointCardSaid : Prop := Claim7.holds Tryd.pinned (.plain (OpenSpec.ofChange addrPrefixesNestOrDisjointSpec)) addrPrefixesNestOrDisjointCard

/-- THE TIED CARD OF 'stagepostlaw03.AddrPrefixHalves'. -/
def addrPrefixHalvesCard : Claim7 := { stood := { row := addrPrefixHalvesRow, standIns := [], harness := (true, "345bf1854015731f8c3da04ff7a255cb0a035a86b454a72b79fa27f5e239be83"), looks := true }, kinds := [], alts := [], laidByText := true, laidKinds := [.data, .data, .data, .data, .sentinel, .sentinel, .pinned], laidTests := true, laidLooks := .later }
def AddrPrefixHalvesCardSaid : Prop := Claim7.holds Tryd.pinned (.plain (OpenSpec.ofChange addrPrefixHalvesSpec)) addrPrefixHalvesCard

/-- THE TIED CARD OF 'stagepostlaw03.AddrMatchesWireBytes'. -/
def addrMatchesWireBytesCard : Claim7 := { stood := { row := addrMatchesWireBytesRow, standIns := [], harness := (true, "345bf1854015731f8c3da04ff7a255cb0a035a86b454a72b79fa27f5e239be83"), looks := true }, kinds := [], alts := [], laidByText := true, laidKinds := [.data, .data, .data, .data, .sentinel, .sentinel, .pinned], laidTests := true, laidLooks := .later }
def AddrMatchesWireBytesCardSaid : Prop := Claim7.holds Tryd.pinned (.plain (OpenSpec.ofChange addrMatchesWireBytesSpec)) addrMatchesWireBytesCard

/-- THE SECOND FORM's CARD OF 'stagepostlaw03.AddrMatchesReference'. -/
def addrMatchesReferenceUptoCard : Claim7 := { stood := { row := addrMatchesReferenceUptoRow, standIns := [], harness := (true, "345bf1854015731f8c3da04ff7a255cb0a035a86b454a72b79fa27f5e239be83"), looks := true }, kinds := [], alts := [], laidByText := true, laidKinds := [.data, .data, .data, .data, .sentinel, .sentinel, .pinned], laidTests := true, laidLooks := .later }
def AddrMatchesReferenceUptoCardSaid : Prop := Claim7.holds Tryd.pinned (.plain (OpenSpec.upto addrMatchesReferenceSpec)) addrMatchesReferenceUptoCard

/-- THE SECOND FORM's CARD OF 'stagepostlaw03.AddrParsesLikeReference'. -/
def addrParsesLikeReferenceUptoCard : Claim7 := { stood := { row := addrParsesLikeReferenceUptoRow, standIns := [], harness := (true, "345bf1854015731f8c3da04ff7a255cb0a035a86b454a72b79fa27f5e239be83"), looks := true }, kinds := [], alts := [], laidByText := true, laidKinds := [.data, .data, .data, .data, .sentinel, .sentinel, .pinned], laidTests := true, laidLooks := .later }
def AddrParsesLikeReferenceUptoCardSaid : Prop := Claim7.holds Tryd.pinned (.plain (OpenSpec.upto addrParsesLikeReferenceSpec)) addrParsesLikeReferenceUptoCard

/-- THE SECOND FORM's CARD OF 'stagepostlaw03.AddrRoundTrip'. -/
def addrRoundTripUptoCard : Claim7 := { stood := { row := addrRoundTripUptoRow, standIns := [], harness := (true, "345bf1854015731f8c3da04ff7a255cb0a035a86b454a72b79fa27f5e239be83"), looks := true }, kinds := [], alts := [], laidByText := true, laidKinds := [.data, .data, .data, .data, .sentinel, .sentinel, .pinned], laidTests := true, laidLooks := .later }
def AddrRoundTripUptoCardSaid : Prop := Claim7.holds Tryd.pinned (.plain (OpenSpec.upto addrRoundTripSpec)) addrRoundTripUptoCard

/-- THE SECOND FORM's CARD OF 'stagepostlaw03.AddrPrefixIsInterval'. -/
def addrPrefixIsIntervalUptoCard : Claim7 := { stood := { row := addrPrefixIsIntervalUptoRow, standIns := [], harness := (true, "345bf1854015731f8c3da04ff7a255cb0a035a86b454a72b79fa27f5e239be83"), looks := true }, kinds := [], alts := [], laidByText := true, laidKinds := [.data, .data, .data, .data, .sentinel, .sentinel, .pinned], laidTests := true, laidLooks := .later }
def AddrPrefixIsIntervalUptoCardSaid : Prop := Claim7.holds Tryd.pinned (.plain (OpenSpec.upto addrPrefixIsIntervalSpec)) addrPrefixIsIntervalUptoCard

/-- THE SECOND FORM's CARD OF 'stagepostlaw03.AddrPrefixesNestOrDisjoint'. -/
def addrPrefixesNestOrDisjointUptoCard : Claim7 := { stood := { row := addrPrefixesNestOrDisjointUptoRow, standIns := [], harness := (true, "345bf1854015731f8c3da04ff7a255cb0a035a86b454a72b79fa27f5e239be83"), looks := true }, kinds := [], alts := [], laidByText := true, laidKinds := [.data, .data, .data, .data, .sentinel, .sentinel, .pinned], laidTests := true, laidLooks := .later }
def AddrPrefixesNestOrDisjointUptoCardSaid : Prop := Claim7.holds Tryd.pinned (.plain (OpenSpec.upto addrPrefixesNestOrDisjointSpec)) addrPrefixesNestOrDisjointUptoCard

/-- THE SECOND FORM's CARD OF 'stagepostlaw03.AddrPrefixHalves'. -/
def addrPrefixHalvesUptoCard : Claim7 := { stood := { row := addrPrefixHalvesUptoRow, standIns := [], harness := (true, "345bf1854015731f8c3da04ff7a255cb0a035a86b454a72b79fa27f5e239be83"), looks := true }, kinds := [], alts := [], laidByText := true, laidKinds := [.data, .data, .data, .data, .sentinel, .sentinel, .pinned], laidTests := true, laidLooks := .later }
def AddrPrefixHalvesUptoCardSaid : Prop := Claim7.holds Tryd.pinned (.plain (OpenSpec.upto addrPrefixHalvesSpec)) addrPrefixHalvesUptoCard

/-- THE SECOND FORM's CARD OF 'stagepostlaw03.AddrMatchesWireBytes'. -/
def addrMatchesWireBytesUptoCard : Claim7 := { stood := { row := addrMatchesWireBytesUptoRow, standIns := [], harness := (true, "345bf1854015731f8c3da04ff7a255cb0a035a86b454a72b79fa27f5e239be83"), looks := true }, kinds := [], alts := [], laidByText := true, laidKinds := [.data, .data, .data, .data, .sentinel, .sentinel, .pinned], laidTests := true, laidLooks := .later }
def AddrMatchesWireBytesUptoCardSaid : Prop := Claim7.holds Tryd.pinned (.plain (OpenSpec.upto addrMatchesWireBytesSpec)) addrMatchesWireBytesUptoCard
end Rows
end Go.Proofs.YtobcecnmeepjpaaDoor

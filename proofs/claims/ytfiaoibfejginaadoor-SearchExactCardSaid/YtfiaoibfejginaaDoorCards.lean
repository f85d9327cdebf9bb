/-
  DERIVED. GIVEN WITH THE SEED: THE CARDS: each row of YtfiaoibfejginaaDoorRows.lean that lists a variable, with what it lists TIED to the program's text (the seventh form; the later family's looks); each row that meets fmt, with fmt's text TOLD by the authors' own Lean function (tested against real Go, not proved from fmt's source: count such statements apart). THE CARD IS WHAT COUNTS. Prove the row's statement (the work); the ties are given (YtfiaoibfejginaaDoorTie.lean); close each card by the builder's one call (the guide's Derived/Test/ToyasCard.lean, 'card_holds'). Laid BY PROGRAM, IN A SANDBOX (cutbox-door.mjs). By AI agents, Wed Nov 11 2026. No macro, syntax, notation, axiom, sorry.
-/
import Derived.Test.YtfiaoibfejginaaDoorRows
import GoSem.ClaimSeven
namespace Go.Proofs.YtfiaoibfejginaaDoor
namespace Rows

/-- THE TIED CARD OF 'deliberationlaw14.SearchLists'. -/
def searchListsCard : Claim7 := { stood := { row := searchListsRow, standIns := [], harness := (true, "befac09d178596e510287c1c39d587fe0186fd2b254eafd0822f6be56c34529f"), looks := false }, kinds := [], alts := [], laidByText := true, laidKinds := [.data], laidTests := true, laidLooks := .later }
def SearchListsCardSaid : Prop := Claim7.holds Tryd.pinned (.plain (OpenSpec.ofChange searchListsSpec)) searchListsCard

/-- THE TIED CARD OF 'deliberationlaw14.SearchExact'. -/
def searchExactCard : Claim7 := { stood := { row := searchExactRow, standIns := [], harness := (true, "befac09d178596e510287c1c39d587fe0186fd2b254eafd0822f6be56c34529f"), looks := false }, kinds := [], alts := [], laidByText := true, laidKinds := [.data], laidTests := true, laidLooks := .later }
def SearchExactCardSaid : Prop := Claim7.holds Tryd.pinned (.plain (OpenSpec.ofChange searchExactSpec)) searchExactCard

/-- THE TIED CARD OF 'deliberationlaw14.SearchMeet'. -/
def searchMeetCard : Claim7 := { stood := { row := searchMeetRow, standIns := [], harness := (true, "befac09d178596e510287c1c39d587fe0186fd2b254eafd0822f6be56c34529f"), looks := false }, kinds := [], alts := [], laidByText := true, laidKinds := [.data], laidTests := true, laidLooks := .later }
def SearchMeetCardSaid : Prop := Claim7.holds Tryd.pinned (.plain (OpenSpec.ofChange searchMeetSpec)) searchMeetCard

/-- THE TIED CARD OF 'deliberationlaw14.SearchParts'. -/
def searchPartsCard : Claim7 := { stood := { row := searchPartsRow, standIns := [], harness := (true, "befac09d178596e510287c1c39d587fe0186fd2b254eafd0822f6be56c34529f"), looks := false }, kinds := [], alts := [], laidByText := true, laidKinds := [.data], laidTests := true, laidLooks := .later }
def SearchPartsCardSaid : Prop := Claim7.holds Tryd.pinned (.plain (OpenSpec.ofChange searchPartsSpec)) searchPartsCard

/-- THE TIED CARD OF 'deliberationlaw14.SearchLimits'. -/
def searchLimitsCard : Claim7 := { stood := { row := searchLimitsRow, standIns := [], harness := (true, "befac09d178596e510287c1c39d587fe0186fd2b254eafd0822f6be56c34529f"), looks := false }, kinds := [], alts := [], laidByText := true, laidKinds := [.data], laidTests := true, laidLooks := .later }
def SearchLimitsCardSaid : Prop := Claim7.holds Tryd.pinned (.plain (OpenSpec.ofChange searchLimitsSpec)) searchLimitsCard

/-- THE TIED CARD OF 'deliberationlaw14.SearchLarge'. -/
def searchLargeCard : Claim7 := { stood := { row := searchLargeRow, standIns := [], harness := (true, "befac09d178596e510287c1c39d587fe0186fd2b254eafd0822f6be56c34529f"), looks := false }, kinds := [], alts := [], laidByText := true, laidKinds := [.data], laidTests := true, laidLooks := .later }
def SearchLargeCardSaid : Prop := Claim7.holds Tryd.pinned (.plain (OpenSpec.ofChange searchLargeSpec)) searchLargeCard

/-- THE SECOND FORM's CARD OF 'deliberationlaw14.SearchLists'. -/
def searchListsUptoCard : Claim7 := { stood := { row := searchListsUptoRow, standIns := [], harness := (true, "befac09d178596e510287c1c39d587fe0186fd2b254eafd0822f6be56c34529f"), looks := false }, kinds := [], alts := [], laidByText := true, laidKinds := [.data], laidTests := true, laidLooks := .later }
def SearchListsUptoCardSaid : Prop := Claim7.holds Tryd.pinned (.plain (OpenSpec.upto searchListsSpec)) searchListsUptoCard

/-- THE SECOND FORM's CARD OF 'deliberationlaw14.SearchExact'. -/
def searchExactUptoCard : Claim7 := { stood := { row := searchExactUptoRow, standIns := [], harness := (true, "befac09d178596e510287c1c39d587fe0186fd2b254eafd0822f6be56c34529f"), looks := false }, kinds := [], alts := [], laidByText := true, laidKinds := [.data], laidTests := true, laidLooks := .later }
def SearchExactUptoCardSaid : Prop := Claim7.holds Tryd.pinned (.plain (OpenSpec.upto searchExactSpec)) searchExactUptoCard

/-- THE SECOND FORM's CARD OF 'deliberationlaw14.SearchMeet'. -/
def searchMeetUptoCard : Claim7 := { stood := { row := searchMeetUptoRow, standIns := [], harness := (true, "befac09d178596e510287c1c39d587fe0186fd2b254eafd0822f6be56c34529f"), looks := false }, kinds := [], alts := [], laidByText := true, laidKinds := [.data], laidTests := true, laidLooks := .later }
def SearchMeetUptoCardSaid : Prop := Claim7.holds Tryd.pinned (.plain (OpenSpec.upto searchMeetSpec)) searchMeetUptoCard

/-- THE SECOND FORM's CARD OF 'deliberationlaw14.SearchParts'. -/
def searchPartsUptoCard : Claim7 := { stood := { row := searchPartsUptoRow, standIns := [], harness := (true, "befac09d178596e510287c1c39d587fe0186fd2b254eafd0822f6be56c34529f"), looks := false }, kinds := [], alts := [], laidByText := true, laidKinds := [.data], laidTests := true, laidLooks := .later }
def SearchPartsUptoCardSaid : Prop := Claim7.holds Tryd.pinned (.plain (OpenSpec.upto searchPartsSpec)) searchPartsUptoCard

/-- THE SECOND FORM's CARD OF 'deliberationlaw14.SearchLimits'. -/
def searchLimitsUptoCard : Claim7 := { stood := { row := searchLimitsUptoRow, standIns := [], harness := (true, "befac09d178596e510287c1c39d587fe0186fd2b254eafd0822f6be56c34529f"), looks := false }, kinds := [], alts := [], laidByText := true, laidKinds := [.data], laidTests := true, laidLooks := .later }
def SearchLimitsUptoCardSaid : Prop := Claim7.holds Tryd.pinned (.plain (OpenSpec.upto searchLimitsSpec)) searchLimitsUptoCard

/-- THE SECOND FORM's CARD OF 'deliberationlaw14.SearchLarge'. -/
def searchLargeUptoCard : Claim7 := { stood := { row := searchLargeUptoRow, standIns := [], harness := (true, "befac09d178596e510287c1c39d587fe0186fd2b254eafd0822f6be56c34529f"), looks := false }, kinds := [], alts := [], laidByText := true, laidKinds := [.data], laidTests := true, laidLooks := .later }
def SearchLargeUptoCardSaid : Prop := Claim7.holds Tryd.pinned (.plain (OpenSpec.upto searchLargeSpec)) searchLargeUptoCard
end Rows
end Go.Proofs.YtfiaoibfejginaaDoor

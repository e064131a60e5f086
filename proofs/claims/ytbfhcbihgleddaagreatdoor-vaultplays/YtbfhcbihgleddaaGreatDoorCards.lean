/-
  DERIVED. GIVEN WITH THE SEED: THE CARDS: each row of YtbfhcbihgleddaaGreatDoorRows.lean that lists a variable, with what it lists TIED to the program's text (the seventh form; the later family's looks); each row that meets fmt, with fmt's text TOLD by the authors' own Lean function (tested against real Go, not proved from fmt's source: count such statements apart). THE CARD IS WHAT COUNTS. Prove the row's statement (the work); the ties are given (YtbfhcbihgleddaaGreatDoorTie.lean); close each card by the builder's one call (the guide's Derived/Test/ToyasCard.lean, 'card_holds'). Laid BY PROGRAM, IN A SANDBOX (cutbox-door.mjs). By AI agents, Wed Nov 11 2026. No macro, syntax, notation, axiom, sorry.
-/
import Derived.Test.YtbfhcbihgleddaaGreatDoorRows
import GoSem.ClaimSeven
namespace Go.Proofs.YtbfhcbihgleddaaGreatDoor
namespace Rows

/-- THE TIED CARD OF 'leatlaw3.VaultKeep'. -/
def vaultKeepCard : Claim7 := { stood := { row := vaultKeepRow, standIns := [], harness := (true, "18d826a8b5b13de5a3a30d4fae7d330abf585ecef230f43c4d6b178345ac3c37"), looks := false }, kinds := [], alts := [], laidByText := true, laidKinds := [.data, .data, .data, .data], laidTests := true, laidLooks := .later }
def VaultKeepCardSaid : Prop := Claim7.holds Tryz.pinned (.plain (OpenSpec.ofChange vaultKeepSpec)) vaultKeepCard

/-- THE TIED CARD OF 'leatlaw3.VaultPlays'. -/
def vaultPlaysCard : Claim7 := { stood := { row := vaultPlaysRow, standIns := [], harness := (true, "18d826a8b5b13de5a3a30d4fae7d330abf585ecef230f43c4d6b178345ac3c37"), looks := false }, kinds := [], alts := [], laidByText := true, laidKinds := [.data, .data, .data, .data], laidTests := true, laidLooks := .later }
def VaultPlaysCardSaid : Prop := Claim7.holds Tryz.pinned (.plain (OpenSpec.ofChange vaultPlaysSpec)) vaultPlaysCard

/-- THE TIED CARD OF 'leatlaw3.VaultCrashes'. -/
def vaultCrashesCard : Claim7 := { stood := { row := vaultCrashesRow, standIns := [], harness := (true, "18d826a8b5b13de5a3a30d4fae7d330abf585ecef230f43c4d6b178345ac3c37"), looks := false }, kinds := [], alts := [], laidByText := true, laidKinds := [.data, .data, .data, .data], laidTests := true, laidLooks := .later }
def VaultCrashesCardSaid : Prop := Claim7.holds Tryz.pinned (.plain (OpenSpec.ofChange vaultCrashesSpec)) vaultCrashesCard

/-- THE TIED CARD OF 'leatlaw3.VaultAgain'. -/
def vaultAgainCard : Claim7 := { stood := { row := vaultAgainRow, standIns := [], harness := (true, "18d826a8b5b13de5a3a30d4fae7d330abf585ecef230f43c4d6b178345ac3c37"), looks := false }, kinds := [], alts := [], laidByText := true, laidKinds := [.data, .data, .data, .data], laidTests := true, laidLooks := .later }
def VaultAgainCardSaid : Prop := Claim7.holds Tryz.pinned (.plain (OpenSpec.ofChange vaultAgainSpec)) vaultAgainCard

/-- THE TIED CARD OF 'leatlaw3.VaultEvery'. -/
def vaultEveryCard : Claim7 := { stood := { row := vaultEveryRow, standIns := [], harness := (true, "18d826a8b5b13de5a3a30d4fae7d330abf585ecef230f43c4d6b178345ac3c37"), looks := false }, kinds := [], alts := [], laidByText := true, laidKinds := [.data, .data, .data, .data], laidTests := true, laidLooks := .later }
def VaultEveryCardSaid : Prop := Claim7.holds Tryz.pinned (.plain (OpenSpec.ofChange vaultEverySpec)) vaultEveryCard

/-- THE TIED CARD OF 'leatlaw3.VaultTorn'. -/
def vaultTornCard : Claim7 := { stood := { row := vaultTornRow, standIns := [], harness := (true, "18d826a8b5b13de5a3a30d4fae7d330abf585ecef230f43c4d6b178345ac3c37"), looks := false }, kinds := [], alts := [], laidByText := true, laidKinds := [.data, .data, .data, .data], laidTests := true, laidLooks := .later }
def VaultTornCardSaid : Prop := Claim7.holds Tryz.pinned (.plain (OpenSpec.ofChange vaultTornSpec)) vaultTornCard

/-- THE SECOND FORM's CARD OF 'leatlaw3.VaultKeep'. -/
def vaultKeepUptoCard : Claim7 := { stood := { row := vaultKeepUptoRow, standIns := [], harness := (true, "18d826a8b5b13de5a3a30d4fae7d330abf585ecef230f43c4d6b178345ac3c37"), looks := false }, kinds := [], alts := [], laidByText := true, laidKinds := [.data, .data, .data, .data], laidTests := true, laidLooks := .later }
def VaultKeepUptoCardSaid : Prop := Claim7.holds Tryz.pinned (.plain (OpenSpec.upto vaultKeepSpec)) vaultKeepUptoCard

/-- THE SECOND FORM's CARD OF 'leatlaw3.VaultPlays'. -/
def vaultPlaysUptoCard : Claim7 := { stood := { row := vaultPlaysUptoRow, standIns := [], harness := (true, "18d826a8b5b13de5a3a30d4fae7d330abf585ecef230f43c4d6b178345ac3c37"), looks := false }, kinds := [], alts := [], laidByText := true, laidKinds := [.data, .data, .data, .data], laidTests := true, laidLooks := .later }
def VaultPlaysUptoCardSaid : Prop := Claim7.holds Tryz.pinned (.plain (OpenSpec.upto vaultPlaysSpec)) vaultPlaysUptoCard

/-- THE SECOND FORM's CARD OF 'leatlaw3.VaultCrashes'. -/
def vaultCrashesUptoCard : Claim7 := { stood := { row := vaultCrashesUptoRow, standIns := [], harness := (true, "18d826a8b5b13de5a3a30d4fae7d330abf585ecef230f43c4d6b178345ac3c37"), looks := false }, kinds := [], alts := [], laidByText := true, laidKinds := [.data, .data, .data, .data], laidTests := true, laidLooks := .later }
def VaultCrashesUptoCardSaid : Prop := Claim7.holds Tryz.pinned (.plain (OpenSpec.upto vaultCrashesSpec)) vaultCrashesUptoCard

/-- THE SECOND FORM's CARD OF 'leatlaw3.VaultAgain'. -/
def vaultAgainUptoCard : Claim7 := { stood := { row := vaultAgainUptoRow, standIns := [], harness := (true, "18d826a8b5b13de5a3a30d4fae7d330abf585ecef230f43c4d6b178345ac3c37"), looks := false }, kinds := [], alts := [], laidByText := true, laidKinds := [.data, .data, .data, .data], laidTests := true, laidLooks := .later }
def VaultAgainUptoCardSaid : Prop := Claim7.holds Tryz.pinned (.plain (OpenSpec.upto vaultAgainSpec)) vaultAgainUptoCard

/-- THE SECOND FORM's CARD OF 'leatlaw3.VaultEvery'. -/
def vaultEveryUptoCard : Claim7 := { stood := { row := vaultEveryUptoRow, standIns := [], harness := (true, "18d826a8b5b13de5a3a30d4fae7d330abf585ecef230f43c4d6b178345ac3c37"), looks := false }, kinds := [], alts := [], laidByText := true, laidKinds := [.data, .data, .data, .data], laidTests := true, laidLooks := .later }
def VaultEveryUptoCardSaid : Prop := Claim7.holds Tryz.pinned (.plain (OpenSpec.upto vaultEverySpec)) vaultEveryUptoCard

/-- THE SECOND FORM's CARD OF 'leatlaw3.VaultTorn'. -/
def vaultTornUptoCard : Claim7 := { stood := { row := vaultTornUptoRow, standIns := [], harness := (true, "18d826a8b5b13de5a3a30d4fae7d330abf585ecef230f43c4d6b178345ac3c37"), looks := false }, kinds := [], alts := [], laidByText := true, laidKinds := [.data, .data, .data, .data], laidTests := true, laidLooks := .later }
def VaultTornUptoCardSaid : Prop := Claim7.holds Tryz.pinned (.plain (OpenSpec.upto vaultTornSpec)) vaultTornUptoCard
end Rows
end Go.Proofs.YtbfhcbihgleddaaGreatDoor

/-
  DERIVED. GIVEN WITH THE SEED: THE CARDS: each row of YtaajjejgjnlbgabDoorRows.lean that lists a variable, with what it lists TIED to the program's text (the seventh form; the later family's looks); each row that meets fmt, with fmt's text TOLD by the authors' own Lean function (tested against real Go, not proved from fmt's source: count such statements apart). THE CARD IS WHAT COUNTS. Prove the row's statement (the work); the ties are given (YtaajjejgjnlbgabDoorTie.lean); close each card by the builder's one call (the guide's Derived/Test/ToyasCard.lean, 'card_holds'). Laid BY PROGRAM, IN A SANDBOX (cutbox-door.mjs). By AI agents, Wed Nov 11 2026. No macro, syntax, notation, axiom, sorry.
-/
import Derived.Test.YtaajjejgjnlbgabDoorRows
import GoSem.ClaimSeven
namespace Go.Proofs.YtaajjejgjnlbgabDoor
namespace Rows

/-- THE TIED CARD OF 'leatlaw1.CodecCuts'. -/
def codecCutsCard : Claim7 := { stood := { row := codecCutsRow, standIns := [], harness := (true, "b90065fe2eaf47662ab45a3b14a06a338e3b5b17c9ff8b0f1a5bf11c8122b001"), looks := false }, kinds := [], alts := [], laidByText := true, laidKinds := [.data], laidTests := true, laidLooks := .later }
def CodecCutsCardSaid : Prop := Claim7.holds Tryd.pinned (.plain (OpenSpec.ofChange codecCutsSpec)) codecCutsCard

/-- THE SECOND FORM's CARD OF 'leatlaw1.CodecCuts'. -/
def codecCutsUptoCard : Claim7 := { stood := { row := codecCutsUptoRow, standIns := [], harness := (true, "b90065fe2eaf47662ab45a3b14a06a338e3b5b17c9ff8b0f1a5bf11c8122b001"), looks := false }, kinds := [], alts := [], laidByText := true, laidKinds := [.data], laidTests := true, laidLooks := .later }
def CodecCutsUptoCardSaid : Prop := Claim7.holds Tryd.pinned (.plain (OpenSpec.upto codecCutsSpec)) codecCutsUptoCard
end Rows
end Go.Proofs.YtaajjejgjnlbgabDoor

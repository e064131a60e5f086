/-
  DERIVED. GIVEN WITH THE SEED: THE CARDS: each row of YtaajjejgjnlbgaaDoorRows.lean that lists a variable, with what it lists TIED to the program's text (the seventh form; the later family's looks); each row that meets fmt, with fmt's text TOLD by the authors' own Lean function (tested against real Go, not proved from fmt's source: count such statements apart). THE CARD IS WHAT COUNTS. Prove the row's statement (the work); the ties are given (YtaajjejgjnlbgaaDoorTie.lean); close each card by the builder's one call (the guide's Derived/Test/ToyasCard.lean, 'card_holds'). Laid BY PROGRAM, IN A SANDBOX (cutbox-door.mjs). By AI agents, Wed Nov 11 2026. No macro, syntax, notation, axiom, sorry.
-/
import Derived.Test.YtaajjejgjnlbgaaDoorRows
import GoSem.ClaimSeven
namespace Go.Proofs.YtaajjejgjnlbgaaDoor
namespace Rows

/-- THE TIED CARD OF 'leatlaw1.CodecFrame'. -/
def codecFrameCard : Claim7 := { stood := { row := codecFrameRow, standIns := [], harness := (true, "fbdc8e45f7607e2b3a835cd391fdf34032831d22d01790950dc67abc0ea90e21"), looks := false }, kinds := [], alts := [], laidByText := true, laidKinds := [.data], laidTests := true, laidLooks := .later }
def CodecFrameCardSaid : Prop := Claim7.holds Tryd.pinned (.plain (OpenSpec.ofChange codecFrameSpec)) codecFrameCard

/-- THE TIED CARD OF 'leatlaw1.CodecSnap'. -/
def codecSnapCard : Claim7 := { stood := { row := codecSnapRow, standIns := [], harness := (true, "fbdc8e45f7607e2b3a835cd391fdf34032831d22d01790950dc67abc0ea90e21"), looks := false }, kinds := [], alts := [], laidByText := true, laidKinds := [.data], laidTests := true, laidLooks := .later }
def CodecSnapCardSaid : Prop := Claim7.holds Tryd.pinned (.plain (OpenSpec.ofChange codecSnapSpec)) codecSnapCard

/-- THE TIED CARD OF 'leatlaw1.CodecManifest'. -/
def codecManifestCard : Claim7 := { stood := { row := codecManifestRow, standIns := [], harness := (true, "fbdc8e45f7607e2b3a835cd391fdf34032831d22d01790950dc67abc0ea90e21"), looks := false }, kinds := [], alts := [], laidByText := true, laidKinds := [.data], laidTests := true, laidLooks := .later }
def CodecManifestCardSaid : Prop := Claim7.holds Tryd.pinned (.plain (OpenSpec.ofChange codecManifestSpec)) codecManifestCard

/-- THE TIED CARD OF 'leatlaw1.CodecReads'. -/
def codecReadsCard : Claim7 := { stood := { row := codecReadsRow, standIns := [], harness := (true, "fbdc8e45f7607e2b3a835cd391fdf34032831d22d01790950dc67abc0ea90e21"), looks := false }, kinds := [], alts := [], laidByText := true, laidKinds := [.data], laidTests := true, laidLooks := .later }
def CodecReadsCardSaid : Prop := Claim7.holds Tryd.pinned (.plain (OpenSpec.ofChange codecReadsSpec)) codecReadsCard

/-- THE TIED CARD OF 'leatlaw1.CodecSeals'. -/
def codecSealsCard : Claim7 := { stood := { row := codecSealsRow, standIns := [], harness := (true, "fbdc8e45f7607e2b3a835cd391fdf34032831d22d01790950dc67abc0ea90e21"), looks := false }, kinds := [], alts := [], laidByText := true, laidKinds := [.data], laidTests := true, laidLooks := .later }
def CodecSealsCardSaid : Prop := Claim7.holds Tryd.pinned (.plain (OpenSpec.ofChange codecSealsSpec)) codecSealsCard

/-- THE TIED CARD OF 'leatlaw1.CodecApart'. -/
def codecApartCard : Claim7 := { stood := { row := codecApartRow, standIns := [], harness := (true, "fbdc8e45f7607e2b3a835cd391fdf34032831d22d01790950dc67abc0ea90e21"), looks := false }, kinds := [], alts := [], laidByText := true, laidKinds := [.data], laidTests := true, laidLooks := .later }
def CodecApartCardSaid : Prop := Claim7.holds Tryd.pinned (.plain (OpenSpec.ofChange codecApartSpec)) codecApartCard

/-- THE SECOND FORM's CARD OF 'leatlaw1.CodecFrame'. -/
def codecFrameUptoCard : Claim7 := { stood := { row := codecFrameUptoRow, standIns := [], harness := (true, "fbdc8e45f7607e2b3a835cd391fdf34032831d22d01790950dc67abc0ea90e21"), looks := false }, kinds := [], alts := [], laidByText := true, laidKinds := [.data], laidTests := true, laidLooks := .later }
def CodecFrameUptoCardSaid : Prop := Claim7.holds Tryd.pinned (.plain (OpenSpec.upto codecFrameSpec)) codecFrameUptoCard

/-- THE SECOND FORM's CARD OF 'leatlaw1.CodecSnap'. -/
def codecSnapUptoCard : Claim7 := { stood := { row := codecSnapUptoRow, standIns := [], harness := (true, "fbdc8e45f7607e2b3a835cd391fdf34032831d22d01790950dc67abc0ea90e21"), looks := false }, kinds := [], alts := [], laidByText := true, laidKinds := [.data], laidTests := true, laidLooks := .later }
def CodecSnapUptoCardSaid : Prop := Claim7.holds Tryd.pinned (.plain (OpenSpec.upto codecSnapSpec)) codecSnapUptoCard

/-- THE SECOND FORM's CARD OF 'leatlaw1.CodecManifest'. -/
def codecManifestUptoCard : Claim7 := { stood := { row := codecManifestUptoRow, standIns := [], harness := (true, "fbdc8e45f7607e2b3a835cd391fdf34032831d22d01790950dc67abc0ea90e21"), looks := false }, kinds := [], alts := [], laidByText := true, laidKinds := [.data], laidTests := true, laidLooks := .later }
def CodecManifestUptoCardSaid : Prop := Claim7.holds Tryd.pinned (.plain (OpenSpec.upto codecManifestSpec)) codecManifestUptoCard

/-- THE SECOND FORM's CARD OF 'leatlaw1.CodecReads'. -/
def codecReadsUptoCard : Claim7 := { stood := { row := codecReadsUptoRow, standIns := [], harness := (true, "fbdc8e45f7607e2b3a835cd391fdf34032831d22d01790950dc67abc0ea90e21"), looks := false }, kinds := [], alts := [], laidByText := true, laidKinds := [.data], laidTests := true, laidLooks := .later }
def CodecReadsUptoCardSaid : Prop := Claim7.holds Tryd.pinned (.plain (OpenSpec.upto codecReadsSpec)) codecReadsUptoCard

/-- THE SECOND FORM's CARD OF 'leatlaw1.CodecSeals'. -/
def codecSealsUptoCard : Claim7 := { stood := { row := codecSealsUptoRow, standIns := [], harness := (true, "fbdc8e45f7607e2b3a835cd391fdf34032831d22d01790950dc67abc0ea90e21"), looks := false }, kinds := [], alts := [], laidByText := true, laidKinds := [.data], laidTests := true, laidLooks := .later }
def CodecSealsUptoCardSaid : Prop := Claim7.holds Tryd.pinned (.plain (OpenSpec.upto codecSealsSpec)) codecSealsUptoCard

/-- THE SECOND FORM's CARD OF 'leatlaw1.CodecApart'. -/
def codecApartUptoCard : Claim7 := { stood := { row := codecApartUptoRow, standIns := [], harness := (true, "fbdc8e45f7607e2b3a835cd391fdf34032831d22d01790950dc67abc0ea90e21"), looks := false }, kinds := [], alts := [], laidByText := true, laidKinds := [.data], laidTests := true, laidLooks := .later }
def CodecApartUptoCardSaid : Prop := Claim7.holds Tryd.pinned (.plain (OpenSpec.upto codecApartSpec)) codecApartUptoCard
end Rows
end Go.Proofs.YtaajjejgjnlbgaaDoor

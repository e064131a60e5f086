/-
  NARROWER THAN 'FOR EVERY INPUT', by the rows' own cells (each row's printed sentence says how): CodecFrame: laid · CodecSnap: laid · CodecManifest: laid · CodecReads: laid · CodecSeals: laid · CodecApart: laid.
  DERIVED. THE GIVEN ROWS OF THIS SEAT. 6 by the template 'for every input the law returns true; each argument reads behind the call as it read before'; 0 by the template 'total and deterministic' (their statements: YtaajjejgjnlbgaaDoorTotals.lean).
  GIVEN WITH THE SEED: the statements are not yours to turn. If you find one false, say at which input.
  Laid BY PROGRAM, IN A SANDBOX (cutbox-rows.mjs): the forced cells as the released guide's own fill.sh prints them over the translation 351296faea2bd32c… (all of the seat's roots in one cut). By AI agents, Wed Nov 11 2026. No macro, syntax, notation, axiom, sorry.
-/
import Derived.Test.YtaajjejgjnlbgaaDoorChecked
import GoSem.Claim
import GoSem.ClaimJoined
import GoSem.ClaimMapViews
import Derived.JoinedTies
import Derived.KernelRfl
namespace Go.Proofs.YtaajjejgjnlbgaaDoor
/- THE CELL 'sum', in the pinned program and in every row, IS THE sha256 OF THE DUMP (.gsa) THAT YtaajjejgjnlbgaaDoorProg.lean LOADS. Nothing in Lean hashes anything: it is a label: what it is worth is what the hold of that sum in a sandbox is worth. -/
noncomputable def Tryd.pinned : Pinned := { name := "ytaajjejgjnlbgaadoor", sum := "351296faea2bd32c180a0c314327a5e20720dae8fa218d947d7fc86e556a6e33", checked := Tryd.checked }
namespace Rows
def none {H : Type} : Left H := { results := [], args := [] }

/- WHAT THE LISTED PACKAGE-LEVEL VARIABLES READ AS WHEN THE CALL BEGINS. Each datum BY PROGRAM (the guide's laid-datum.mjs) off the statement by which the dump's own 'gosem.cut.vars' lays the variable. In a bare row this is a premise. The card (YtaajjejgjnlbgaaDoorCards.lean) ties it to the program's text. -/
def laid_leat_codec_nibbles {H : Type} : DataW H := .agg [.lit (.int .u32 0), .lit (.int .u32 498536548), .lit (.int .u32 997073096), .lit (.int .u32 651767980), .lit (.int .u32 1994146192), .lit (.int .u32 1802195444), .lit (.int .u32 1303535960), .lit (.int .u32 1342533948), .lit (.int .u32 3988292384), .lit (.int .u32 4027552580), .lit (.int .u32 3604390888), .lit (.int .u32 3412177804), .lit (.int .u32 2607071920), .lit (.int .u32 2262029012), .lit (.int .u32 2685067896), .lit (.int .u32 3183342108)]

/-- 'leatlaw1.CodecFrame': WHATEVER THE INPUT: true; the input reads as it did. -/
def codecFrameSpec : ChangeSpec := { name := "codecFrame", fn := fun _ => fun
  | [d1, d2] => { results := [.lit (.bool true)], args := [d1, d2] }
  | _ => none }
def codecFrameRow : OpenClaim := { program := "ytaajjejgjnlbgaadoor", sum := "351296faea2bd32c180a0c314327a5e20720dae8fa218d947d7fc86e556a6e33", func := "leat/leatlaw1.CodecFrame", spec := "codecFrame", unfollowed := true, recurses := true, named := ["leat/codec.nibbles"], apart := false, laid := [("leat/codec.nibbles", laid_leat_codec_nibbles)] }
def CodecFrameSaid : Prop := codecFrameRow.holds Tryd.pinned (OpenSpec.ofChange codecFrameSpec)

/-- ITS FALSE NEIGHBOUR: 'it returns false'. Refute it at one input. -/
def codecFrameWrong : ChangeSpec := { name := "codecFrame", fn := fun _ => fun
  | [d1, d2] => { results := [.lit (.bool false)], args := [d1, d2] }
  | _ => none }
def CodecFrameWrongFalsely : Prop := codecFrameRow.holds Tryd.pinned (OpenSpec.ofChange codecFrameWrong)

/-- 'leatlaw1.CodecSnap': WHATEVER THE INPUT: true; the input reads as it did. -/
def codecSnapSpec : ChangeSpec := { name := "codecSnap", fn := fun _ => fun
  | [d] => { results := [.lit (.bool true)], args := [d] }
  | _ => none }
def codecSnapRow : OpenClaim := { program := "ytaajjejgjnlbgaadoor", sum := "351296faea2bd32c180a0c314327a5e20720dae8fa218d947d7fc86e556a6e33", func := "leat/leatlaw1.CodecSnap", spec := "codecSnap", unfollowed := true, recurses := true, named := ["leat/codec.nibbles"], apart := false, laid := [("leat/codec.nibbles", laid_leat_codec_nibbles)] }
def CodecSnapSaid : Prop := codecSnapRow.holds Tryd.pinned (OpenSpec.ofChange codecSnapSpec)

/-- ITS FALSE NEIGHBOUR: 'it returns false'. Refute it at one input. -/
def codecSnapWrong : ChangeSpec := { name := "codecSnap", fn := fun _ => fun
  | [d] => { results := [.lit (.bool false)], args := [d] }
  | _ => none }
def CodecSnapWrongFalsely : Prop := codecSnapRow.holds Tryd.pinned (OpenSpec.ofChange codecSnapWrong)

/-- 'leatlaw1.CodecManifest': WHATEVER THE INPUT: true; the input reads as it did. -/
def codecManifestSpec : ChangeSpec := { name := "codecManifest", fn := fun _ => fun
  | [d] => { results := [.lit (.bool true)], args := [d] }
  | _ => none }
def codecManifestRow : OpenClaim := { program := "ytaajjejgjnlbgaadoor", sum := "351296faea2bd32c180a0c314327a5e20720dae8fa218d947d7fc86e556a6e33", func := "leat/leatlaw1.CodecManifest", spec := "codecManifest", unfollowed := true, recurses := true, named := ["leat/codec.nibbles"], apart := false, laid := [("leat/codec.nibbles", laid_leat_codec_nibbles)] }
def CodecManifestSaid : Prop := codecManifestRow.holds Tryd.pinned (OpenSpec.ofChange codecManifestSpec)

/-- ITS FALSE NEIGHBOUR: 'it returns false'. Refute it at one input. -/
def codecManifestWrong : ChangeSpec := { name := "codecManifest", fn := fun _ => fun
  | [d] => { results := [.lit (.bool false)], args := [d] }
  | _ => none }
def CodecManifestWrongFalsely : Prop := codecManifestRow.holds Tryd.pinned (OpenSpec.ofChange codecManifestWrong)

/-- 'leatlaw1.CodecReads': WHATEVER THE INPUT: true; the input reads as it did. -/
def codecReadsSpec : ChangeSpec := { name := "codecReads", fn := fun _ => fun
  | [d] => { results := [.lit (.bool true)], args := [d] }
  | _ => none }
def codecReadsRow : OpenClaim := { program := "ytaajjejgjnlbgaadoor", sum := "351296faea2bd32c180a0c314327a5e20720dae8fa218d947d7fc86e556a6e33", func := "leat/leatlaw1.CodecReads", spec := "codecReads", unfollowed := true, recurses := true, named := ["leat/codec.nibbles"], apart := false, laid := [("leat/codec.nibbles", laid_leat_codec_nibbles)] }
def CodecReadsSaid : Prop := codecReadsRow.holds Tryd.pinned (OpenSpec.ofChange codecReadsSpec)

/-- ITS FALSE NEIGHBOUR: 'it returns false'. Refute it at one input. -/
def codecReadsWrong : ChangeSpec := { name := "codecReads", fn := fun _ => fun
  | [d] => { results := [.lit (.bool false)], args := [d] }
  | _ => none }
def CodecReadsWrongFalsely : Prop := codecReadsRow.holds Tryd.pinned (OpenSpec.ofChange codecReadsWrong)

/-- 'leatlaw1.CodecSeals': WHATEVER THE INPUT: true; the input reads as it did. -/
def codecSealsSpec : ChangeSpec := { name := "codecSeals", fn := fun _ => fun
  | [d1, d2, d3, d4] => { results := [.lit (.bool true)], args := [d1, d2, d3, d4] }
  | _ => none }
def codecSealsRow : OpenClaim := { program := "ytaajjejgjnlbgaadoor", sum := "351296faea2bd32c180a0c314327a5e20720dae8fa218d947d7fc86e556a6e33", func := "leat/leatlaw1.CodecSeals", spec := "codecSeals", unfollowed := true, recurses := true, named := ["leat/codec.nibbles"], apart := false, laid := [("leat/codec.nibbles", laid_leat_codec_nibbles)] }
def CodecSealsSaid : Prop := codecSealsRow.holds Tryd.pinned (OpenSpec.ofChange codecSealsSpec)

/-- ITS FALSE NEIGHBOUR: 'it returns false'. Refute it at one input. -/
def codecSealsWrong : ChangeSpec := { name := "codecSeals", fn := fun _ => fun
  | [d1, d2, d3, d4] => { results := [.lit (.bool false)], args := [d1, d2, d3, d4] }
  | _ => none }
def CodecSealsWrongFalsely : Prop := codecSealsRow.holds Tryd.pinned (OpenSpec.ofChange codecSealsWrong)

/-- 'leatlaw1.CodecApart': WHATEVER THE INPUT: true; the input reads as it did. -/
def codecApartSpec : ChangeSpec := { name := "codecApart", fn := fun _ => fun
  | [d1, d2, d3, d4, d5, d6] => { results := [.lit (.bool true)], args := [d1, d2, d3, d4, d5, d6] }
  | _ => none }
def codecApartRow : OpenClaim := { program := "ytaajjejgjnlbgaadoor", sum := "351296faea2bd32c180a0c314327a5e20720dae8fa218d947d7fc86e556a6e33", func := "leat/leatlaw1.CodecApart", spec := "codecApart", unfollowed := true, recurses := true, named := ["leat/codec.nibbles"], apart := false, laid := [("leat/codec.nibbles", laid_leat_codec_nibbles)] }
def CodecApartSaid : Prop := codecApartRow.holds Tryd.pinned (OpenSpec.ofChange codecApartSpec)

/-- ITS FALSE NEIGHBOUR: 'it returns false'. Refute it at one input. -/
def codecApartWrong : ChangeSpec := { name := "codecApart", fn := fun _ => fun
  | [d1, d2, d3, d4, d5, d6] => { results := [.lit (.bool false)], args := [d1, d2, d3, d4, d5, d6] }
  | _ => none }
def CodecApartWrongFalsely : Prop := codecApartRow.holds Tryd.pinned (OpenSpec.ofChange codecApartWrong)

/- THE SECOND FORM. 'bulk': how many values and letters a reading holds, each counted each time it is reached (what is shared counts as often as it is met; a slice's spare places count too). A statement '..UptoSaid' is the law's where the arguments, and the package variables that the reading takes, are together of bulk at most 1048576: NARROWER than '..Said'. Prove '..Said' where nothing that the law and all that it calls make is longer than what came in: it says more and counts as full. Else prove '..UptoSaid'. A law counts once. -/
mutual
def uptoBulk {H : Type} : DataW H → Nat
  | .lit (.string bytes) => bytes.length + 1
  | .lit _ => 1
  | .nil => 1
  | .ptr d => uptoBulk d + 1
  | .slice elems spare => uptoBulkAll elems + uptoBulkAll spare + 1
  | .agg parts => uptoBulkAll parts + 1
  | .iface _ d => uptoBulk d + 1
  | .map entries => uptoBulkEntries entries + 1
  | .held _ => 1
def uptoBulkAll {H : Type} : List (DataW H) → Nat
  | [] => 0
  | d :: r => uptoBulk d + uptoBulkAll r
def uptoBulkEntries {H : Type} : List (Lit × DataW H) → Nat
  | [] => 0
  | x :: r => uptoBulkEntry x + uptoBulkEntries r
def uptoBulkEntry {H : Type} : Lit × DataW H → Nat
  | (.string bytes, d) => bytes.length + uptoBulk d + 1
  | (_, d) => uptoBulk d + 1
 end
def uptoSmall : (H : Type) → List (DataW H) → Bool := fun _ ds => decide (uptoBulkAll ds ≤ 1048576)
def OpenSpec.upto (s : _root_.Go.ChangeSpec) : _root_.Go.OpenSpec := { _root_.Go.OpenSpec.ofChange s with cond := some uptoSmall }

/-- 'leatlaw1.CodecFrame', WHERE WHAT IT READS IS OF BULK AT MOST 1048576: true; the input reads as it did. -/
def codecFrameUptoRow : OpenClaim := { program := "ytaajjejgjnlbgaadoor", sum := "351296faea2bd32c180a0c314327a5e20720dae8fa218d947d7fc86e556a6e33", func := "leat/leatlaw1.CodecFrame", spec := "codecFrame", unfollowed := true, recurses := true, named := ["leat/codec.nibbles"], apart := false, laid := [("leat/codec.nibbles", laid_leat_codec_nibbles)], narrowed := true }
def CodecFrameUptoSaid : Prop := codecFrameUptoRow.holds Tryd.pinned (OpenSpec.upto codecFrameSpec)

/-- 'leatlaw1.CodecSnap', WHERE WHAT IT READS IS OF BULK AT MOST 1048576: true; the input reads as it did. -/
def codecSnapUptoRow : OpenClaim := { program := "ytaajjejgjnlbgaadoor", sum := "351296faea2bd32c180a0c314327a5e20720dae8fa218d947d7fc86e556a6e33", func := "leat/leatlaw1.CodecSnap", spec := "codecSnap", unfollowed := true, recurses := true, named := ["leat/codec.nibbles"], apart := false, laid := [("leat/codec.nibbles", laid_leat_codec_nibbles)], narrowed := true }
def CodecSnapUptoSaid : Prop := codecSnapUptoRow.holds Tryd.pinned (OpenSpec.upto codecSnapSpec)

/-- 'leatlaw1.CodecManifest', WHERE WHAT IT READS IS OF BULK AT MOST 1048576: true; the input reads as it did. -/
def codecManifestUptoRow : OpenClaim := { program := "ytaajjejgjnlbgaadoor", sum := "351296faea2bd32c180a0c314327a5e20720dae8fa218d947d7fc86e556a6e33", func := "leat/leatlaw1.CodecManifest", spec := "codecManifest", unfollowed := true, recurses := true, named := ["leat/codec.nibbles"], apart := false, laid := [("leat/codec.nibbles", laid_leat_codec_nibbles)], narrowed := true }
def CodecManifestUptoSaid : Prop := codecManifestUptoRow.holds Tryd.pinned (OpenSpec.upto codecManifestSpec)

/-- 'leatlaw1.CodecReads', WHERE WHAT IT READS IS OF BULK AT MOST 1048576: true; the input reads as it did. -/
def codecReadsUptoRow : OpenClaim := { program := "ytaajjejgjnlbgaadoor", sum := "351296faea2bd32c180a0c314327a5e20720dae8fa218d947d7fc86e556a6e33", func := "leat/leatlaw1.CodecReads", spec := "codecReads", unfollowed := true, recurses := true, named := ["leat/codec.nibbles"], apart := false, laid := [("leat/codec.nibbles", laid_leat_codec_nibbles)], narrowed := true }
def CodecReadsUptoSaid : Prop := codecReadsUptoRow.holds Tryd.pinned (OpenSpec.upto codecReadsSpec)

/-- 'leatlaw1.CodecSeals', WHERE WHAT IT READS IS OF BULK AT MOST 1048576: true; the input reads as it did. -/
def codecSealsUptoRow : OpenClaim := { program := "ytaajjejgjnlbgaadoor", sum := "351296faea2bd32c180a0c314327a5e20720dae8fa218d947d7fc86e556a6e33", func := "leat/leatlaw1.CodecSeals", spec := "codecSeals", unfollowed := true, recurses := true, named := ["leat/codec.nibbles"], apart := false, laid := [("leat/codec.nibbles", laid_leat_codec_nibbles)], narrowed := true }
def CodecSealsUptoSaid : Prop := codecSealsUptoRow.holds Tryd.pinned (OpenSpec.upto codecSealsSpec)

/-- 'leatlaw1.CodecApart', WHERE WHAT IT READS IS OF BULK AT MOST 1048576: true; the input reads as it did. -/
def codecApartUptoRow : OpenClaim := { program := "ytaajjejgjnlbgaadoor", sum := "351296faea2bd32c180a0c314327a5e20720dae8fa218d947d7fc86e556a6e33", func := "leat/leatlaw1.CodecApart", spec := "codecApart", unfollowed := true, recurses := true, named := ["leat/codec.nibbles"], apart := false, laid := [("leat/codec.nibbles", laid_leat_codec_nibbles)], narrowed := true }
def CodecApartUptoSaid : Prop := codecApartUptoRow.holds Tryd.pinned (OpenSpec.upto codecApartSpec)

end Rows
end Go.Proofs.YtaajjejgjnlbgaaDoor

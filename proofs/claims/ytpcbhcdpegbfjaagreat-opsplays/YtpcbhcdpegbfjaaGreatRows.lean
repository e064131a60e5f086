/-
  NARROWER THAN 'FOR EVERY INPUT', by the rows' own cells (each row's printed sentence says how): OpsPlays: loops · OpsNever: loops · OpsHalves: loops · OpsParts: loops · OpsSame: loops.
  DERIVED. THE GIVEN ROWS OF THIS SEAT. 5 by the template 'for every input the law returns true; each argument reads behind the call as it read before'; 0 by the template 'total and deterministic' (their statements: YtpcbhcdpegbfjaaGreatTotals.lean).
  GIVEN WITH THE SEED: the statements are not yours to turn. If you find one false, say at which input.
  Laid BY PROGRAM, IN A SANDBOX (cutbox-rows.mjs): the forced cells as the released guide's own fill.sh prints them over the translation f2ba03f2d459fb90… (all of the seat's roots in one cut). By AI agents, Wed Nov 11 2026. No macro, syntax, notation, axiom, sorry.
-/
import Derived.Test.YtpcbhcdpegbfjaaGreatChecked
import GoSem.Claim
import GoSem.ClaimJoined
import GoSem.ClaimMapViews
import Derived.JoinedTies
import Derived.KernelRfl
namespace Go.Proofs.YtpcbhcdpegbfjaaGreat
/- THE CELL 'sum', in the pinned program and in every row, IS THE sha256 OF THE DUMP (.gsa) THAT YtpcbhcdpegbfjaaGreatProg.lean LOADS. Nothing in Lean hashes anything: it is a label: what it is worth is what the hold of that sum in a sandbox is worth. -/
noncomputable def Tryz.pinned : Pinned := { name := "ytpcbhcdpegbfjaagreat", sum := "f2ba03f2d459fb90b673a66c0421b84d4deb5c37a5eb7e662f01f6f35aee5344", checked := Tryz.checked }
namespace Rows
def none {H : Type} : Left H := { results := [], args := [] }

/-- 'leatlaw13.OpsPlays': WHATEVER THE INPUT: true; the input reads as it did. -/
def opsPlaysSpec : ChangeSpec := { name := "opsPlays", fn := fun _ => fun
  | [d1, d2] => { results := [.lit (.bool true)], args := [d1, d2] }
  | _ => none }
def opsPlaysRow : OpenClaim := { program := "ytpcbhcdpegbfjaagreat", sum := "f2ba03f2d459fb90b673a66c0421b84d4deb5c37a5eb7e662f01f6f35aee5344", func := "leat/leatlaw13.OpsPlays", spec := "opsPlays", unfollowed := true, recurses := true, loops := true, plainKeys := false, apart := false }
def OpsPlaysSaid : Prop := opsPlaysRow.holds Tryz.pinned (OpenSpec.ofChange opsPlaysSpec)

/-- ITS FALSE NEIGHBOUR: 'it returns false'. Refute it at one input. -/
def opsPlaysWrong : ChangeSpec := { name := "opsPlays", fn := fun _ => fun
  | [d1, d2] => { results := [.lit (.bool false)], args := [d1, d2] }
  | _ => none }
def OpsPlaysWrongFalsely : Prop := opsPlaysRow.holds Tryz.pinned (OpenSpec.ofChange opsPlaysWrong)

/-- 'leatlaw13.OpsNever': WHATEVER THE INPUT: true; the input reads as it did. -/
def opsNeverSpec : ChangeSpec := { name := "opsNever", fn := fun _ => fun
  | [d1, d2] => { results := [.lit (.bool true)], args := [d1, d2] }
  | _ => none }
def opsNeverRow : OpenClaim := { program := "ytpcbhcdpegbfjaagreat", sum := "f2ba03f2d459fb90b673a66c0421b84d4deb5c37a5eb7e662f01f6f35aee5344", func := "leat/leatlaw13.OpsNever", spec := "opsNever", unfollowed := true, recurses := true, loops := true, plainKeys := false, apart := false }
def OpsNeverSaid : Prop := opsNeverRow.holds Tryz.pinned (OpenSpec.ofChange opsNeverSpec)

/-- ITS FALSE NEIGHBOUR: 'it returns false'. Refute it at one input. -/
def opsNeverWrong : ChangeSpec := { name := "opsNever", fn := fun _ => fun
  | [d1, d2] => { results := [.lit (.bool false)], args := [d1, d2] }
  | _ => none }
def OpsNeverWrongFalsely : Prop := opsNeverRow.holds Tryz.pinned (OpenSpec.ofChange opsNeverWrong)

/-- 'leatlaw13.OpsHalves': WHATEVER THE INPUT: true; the input reads as it did. -/
def opsHalvesSpec : ChangeSpec := { name := "opsHalves", fn := fun _ => fun
  | [d1, d2, d3] => { results := [.lit (.bool true)], args := [d1, d2, d3] }
  | _ => none }
def opsHalvesRow : OpenClaim := { program := "ytpcbhcdpegbfjaagreat", sum := "f2ba03f2d459fb90b673a66c0421b84d4deb5c37a5eb7e662f01f6f35aee5344", func := "leat/leatlaw13.OpsHalves", spec := "opsHalves", unfollowed := true, recurses := true, loops := true, plainKeys := false, apart := false }
def OpsHalvesSaid : Prop := opsHalvesRow.holds Tryz.pinned (OpenSpec.ofChange opsHalvesSpec)

/-- ITS FALSE NEIGHBOUR: 'it returns false'. Refute it at one input. -/
def opsHalvesWrong : ChangeSpec := { name := "opsHalves", fn := fun _ => fun
  | [d1, d2, d3] => { results := [.lit (.bool false)], args := [d1, d2, d3] }
  | _ => none }
def OpsHalvesWrongFalsely : Prop := opsHalvesRow.holds Tryz.pinned (OpenSpec.ofChange opsHalvesWrong)

/-- 'leatlaw13.OpsParts': WHATEVER THE INPUT: true; the input reads as it did. -/
def opsPartsSpec : ChangeSpec := { name := "opsParts", fn := fun _ => fun
  | [d1, d2, d3] => { results := [.lit (.bool true)], args := [d1, d2, d3] }
  | _ => none }
def opsPartsRow : OpenClaim := { program := "ytpcbhcdpegbfjaagreat", sum := "f2ba03f2d459fb90b673a66c0421b84d4deb5c37a5eb7e662f01f6f35aee5344", func := "leat/leatlaw13.OpsParts", spec := "opsParts", unfollowed := true, recurses := true, loops := true, plainKeys := false, apart := false }
def OpsPartsSaid : Prop := opsPartsRow.holds Tryz.pinned (OpenSpec.ofChange opsPartsSpec)

/-- ITS FALSE NEIGHBOUR: 'it returns false'. Refute it at one input. -/
def opsPartsWrong : ChangeSpec := { name := "opsParts", fn := fun _ => fun
  | [d1, d2, d3] => { results := [.lit (.bool false)], args := [d1, d2, d3] }
  | _ => none }
def OpsPartsWrongFalsely : Prop := opsPartsRow.holds Tryz.pinned (OpenSpec.ofChange opsPartsWrong)

/-- 'leatlaw13.OpsSame': WHATEVER THE INPUT: true; the input reads as it did. -/
def opsSameSpec : ChangeSpec := { name := "opsSame", fn := fun _ => fun
  | [d1, d2, d3] => { results := [.lit (.bool true)], args := [d1, d2, d3] }
  | _ => none }
def opsSameRow : OpenClaim := { program := "ytpcbhcdpegbfjaagreat", sum := "f2ba03f2d459fb90b673a66c0421b84d4deb5c37a5eb7e662f01f6f35aee5344", func := "leat/leatlaw13.OpsSame", spec := "opsSame", unfollowed := true, recurses := true, loops := true, plainKeys := false, apart := false }
def OpsSameSaid : Prop := opsSameRow.holds Tryz.pinned (OpenSpec.ofChange opsSameSpec)

/-- ITS FALSE NEIGHBOUR: 'it returns false'. Refute it at one input. -/
def opsSameWrong : ChangeSpec := { name := "opsSame", fn := fun _ => fun
  | [d1, d2, d3] => { results := [.lit (.bool false)], args := [d1, d2, d3] }
  | _ => none }
def OpsSameWrongFalsely : Prop := opsSameRow.holds Tryz.pinned (OpenSpec.ofChange opsSameWrong)

/- THE SECOND FORM. 'bulk': how many values and letters a reading holds, each counted each time it is reached (what is shared counts as often as it is met; a slice's spare places count too). A statement '..UptoSaid' is the law's where the arguments, and the package variables that the reading takes, are together of bulk at most 1048576: NARROWER than '..Said'. Prove '..Said' where nothing that the law and all that it calls make is longer than what came in: it says more and counts as full. Else prove '..UptoSaid'. A law counts once. -/
mutual
def uptoBulk {H : Type} : DataW H → Nat
  | .lit (.string bytes) => bytes.length + 1
  | .lit _ => 1
  | .nil => 1
  | .ptr d => uptoBulk d + 1
  | .slice elems spare => uptoBulkAll elems + uptoBulkAll spare + 1
  | .agg parts => uptoBulkAll parts + 1
  | .iface _ d => uptoBulk d + 1
  | .map entries => uptoBulkEntries entries + 1
  | .held _ => 1
def uptoBulkAll {H : Type} : List (DataW H) → Nat
  | [] => 0
  | d :: r => uptoBulk d + uptoBulkAll r
def uptoBulkEntries {H : Type} : List (Lit × DataW H) → Nat
  | [] => 0
  | x :: r => uptoBulkEntry x + uptoBulkEntries r
def uptoBulkEntry {H : Type} : Lit × DataW H → Nat
  | (.string bytes, d) => bytes.length + uptoBulk d + 1
  | (_, d) => uptoBulk d + 1
 end
def uptoSmall : (H : Type) → List (DataW H) → Bool := fun _ ds => decide (uptoBulkAll ds ≤ 1048576)
def OpenSpec.upto (s : _root_.Go.ChangeSpec) : _root_.Go.OpenSpec := { _root_.Go.OpenSpec.ofChange s with cond := some uptoSmall }

/-- 'leatlaw13.OpsPlays', WHERE WHAT IT READS IS OF BULK AT MOST 1048576: true; the input reads as it did. -/
def opsPlaysUptoRow : OpenClaim := { program := "ytpcbhcdpegbfjaagreat", sum := "f2ba03f2d459fb90b673a66c0421b84d4deb5c37a5eb7e662f01f6f35aee5344", func := "leat/leatlaw13.OpsPlays", spec := "opsPlays", unfollowed := true, recurses := true, loops := true, plainKeys := false, apart := false, narrowed := true }
def OpsPlaysUptoSaid : Prop := opsPlaysUptoRow.holds Tryz.pinned (OpenSpec.upto opsPlaysSpec)

/-- 'leatlaw13.OpsNever', WHERE WHAT IT READS IS OF BULK AT MOST 1048576: true; the input reads as it did. -/
def opsNeverUptoRow : OpenClaim := { program := "ytpcbhcdpegbfjaagreat", sum := "f2ba03f2d459fb90b673a66c0421b84d4deb5c37a5eb7e662f01f6f35aee5344", func := "leat/leatlaw13.OpsNever", spec := "opsNever", unfollowed := true, recurses := true, loops := true, plainKeys := false, apart := false, narrowed := true }
def OpsNeverUptoSaid : Prop := opsNeverUptoRow.holds Tryz.pinned (OpenSpec.upto opsNeverSpec)

/-- 'leatlaw13.OpsHalves', WHERE WHAT IT READS IS OF BULK AT MOST 1048576: true; the input reads as it did. -/
def opsHalvesUptoRow : OpenClaim := { program := "ytpcbhcdpegbfjaagreat", sum := "f2ba03f2d459fb90b673a66c0421b84d4deb5c37a5eb7e662f01f6f35aee5344", func := "leat/leatlaw13.OpsHalves", spec := "opsHalves", unfollowed := true, recurses := true, loops := true, plainKeys := false, apart := false, narrowed := true }
def OpsHalvesUptoSaid : Prop := opsHalvesUptoRow.holds Tryz.pinned (OpenSpec.upto opsHalvesSpec)

/-- 'leatlaw13.OpsParts', WHERE WHAT IT READS IS OF BULK AT MOST 1048576: true; the input reads as it did. -/
def opsPartsUptoRow : OpenClaim := { program := "ytpcbhcdpegbfjaagreat", sum := "f2ba03f2d459fb90b673a66c0421b84d4deb5c37a5eb7e662f01f6f35aee5344", func := "leat/leatlaw13.OpsParts", spec := "opsParts", unfollowed := true, recurses := true, loops := true, plainKeys := false, apart := false, narrowed := true }
def OpsPartsUptoSaid : Prop := opsPartsUptoRow.holds Tryz.pinned (OpenSpec.upto opsPartsSpec)

/-- 'leatlaw13.OpsSame', WHERE WHAT IT READS IS OF BULK AT MOST 1048576: true; the input reads as it did. -/
def opsSameUptoRow : OpenClaim := { program := "ytpcbhcdpegbfjaagreat", sum := "f2ba03f2d459fb90b673a66c0421b84d4deb5c37a5eb7e662f01f6f35aee5344", func := "leat/leatlaw13.OpsSame", spec := "opsSame", unfollowed := true, recurses := true, loops := true, plainKeys := false, apart := false, narrowed := true }
def OpsSameUptoSaid : Prop := opsSameUptoRow.holds Tryz.pinned (OpenSpec.upto opsSameSpec)

end Rows
end Go.Proofs.YtpcbhcdpegbfjaaGreat

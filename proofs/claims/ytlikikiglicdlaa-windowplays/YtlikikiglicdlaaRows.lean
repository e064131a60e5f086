/-
  No cell of these rows narrows 'for every input' (looked for: loops, veiled, ifaces, maps, wideKeys, modest, calm, conditions, laid).
  DERIVED. THE GIVEN ROWS OF THIS SEAT. 6 by the template 'for every input the law returns true; each argument reads behind the call as it read before'; 0 by the template 'total and deterministic' (their statements: YtlikikiglicdlaaTotals.lean).
  GIVEN WITH THE SEED: the statements are not yours to turn. If you find one false, say at which input.
  Laid BY PROGRAM, IN A SANDBOX (cutbox-rows.mjs): the forced cells as the released guide's own fill.sh prints them over the translation 7b26cf01d8dca6c4… (all of the seat's roots in one cut). By AI agents, Wed Nov 11 2026. No macro, syntax, notation, axiom, sorry.
-/
import Derived.Test.YtlikikiglicdlaaChecked
import GoSem.Claim
import GoSem.ClaimJoined
import GoSem.ClaimMapViews
import Derived.JoinedTies
import Derived.KernelRfl
namespace Go.Proofs.Ytlikikiglicdlaa
/- THE CELL 'sum', in the pinned program and in every row, IS THE sha256 OF THE DUMP (.gsa) THAT YtlikikiglicdlaaProg.lean LOADS. Nothing in Lean hashes anything: it is a label: what it is worth is what the hold of that sum in a sandbox is worth. -/
noncomputable def Try.pinned : Pinned := { name := "ytlikikiglicdlaa", sum := "7b26cf01d8dca6c483cc66bcbe5b8996b91750d1d5f1403a2b8ce44f3b49d072", checked := Try.checked }
namespace Rows
def none {H : Type} : Left H := { results := [], args := [] }

/-- 'leatlaw11.WindowSpans': WHATEVER THE INPUT: true; the input reads as it did. -/
def windowSpansSpec : ChangeSpec := { name := "windowSpans", fn := fun _ => fun
  | [d1, d2] => { results := [.lit (.bool true)], args := [d1, d2] }
  | _ => none }
def windowSpansRow : OpenClaim := { program := "ytlikikiglicdlaa", sum := "7b26cf01d8dca6c483cc66bcbe5b8996b91750d1d5f1403a2b8ce44f3b49d072", func := "leat/leatlaw11.WindowSpans", spec := "windowSpans", unfollowed := true, recurses := true, apart := false }
def WindowSpansSaid : Prop := windowSpansRow.holds Try.pinned (OpenSpec.ofChange windowSpansSpec)

/-- ITS FALSE NEIGHBOUR: 'it returns false'. Refute it at one input. -/
def windowSpansWrong : ChangeSpec := { name := "windowSpans", fn := fun _ => fun
  | [d1, d2] => { results := [.lit (.bool false)], args := [d1, d2] }
  | _ => none }
def WindowSpansWrongFalsely : Prop := windowSpansRow.holds Try.pinned (OpenSpec.ofChange windowSpansWrong)

/-- 'leatlaw11.WindowPlays': WHATEVER THE INPUT: true; the input reads as it did. -/
def windowPlaysSpec : ChangeSpec := { name := "windowPlays", fn := fun _ => fun
  | [d1, d2, d3, d4] => { results := [.lit (.bool true)], args := [d1, d2, d3, d4] }
  | _ => none }
def windowPlaysRow : OpenClaim := { program := "ytlikikiglicdlaa", sum := "7b26cf01d8dca6c483cc66bcbe5b8996b91750d1d5f1403a2b8ce44f3b49d072", func := "leat/leatlaw11.WindowPlays", spec := "windowPlays", unfollowed := true, recurses := true, apart := false }
def WindowPlaysSaid : Prop := windowPlaysRow.holds Try.pinned (OpenSpec.ofChange windowPlaysSpec)

/-- ITS FALSE NEIGHBOUR: 'it returns false'. Refute it at one input. -/
def windowPlaysWrong : ChangeSpec := { name := "windowPlays", fn := fun _ => fun
  | [d1, d2, d3, d4] => { results := [.lit (.bool false)], args := [d1, d2, d3, d4] }
  | _ => none }
def WindowPlaysWrongFalsely : Prop := windowPlaysRow.holds Try.pinned (OpenSpec.ofChange windowPlaysWrong)

/-- 'leatlaw11.WindowOrder': WHATEVER THE INPUT: true; the input reads as it did. -/
def windowOrderSpec : ChangeSpec := { name := "windowOrder", fn := fun _ => fun
  | [d1, d2, d3, d4] => { results := [.lit (.bool true)], args := [d1, d2, d3, d4] }
  | _ => none }
def windowOrderRow : OpenClaim := { program := "ytlikikiglicdlaa", sum := "7b26cf01d8dca6c483cc66bcbe5b8996b91750d1d5f1403a2b8ce44f3b49d072", func := "leat/leatlaw11.WindowOrder", spec := "windowOrder", unfollowed := true, recurses := true, apart := false }
def WindowOrderSaid : Prop := windowOrderRow.holds Try.pinned (OpenSpec.ofChange windowOrderSpec)

/-- ITS FALSE NEIGHBOUR: 'it returns false'. Refute it at one input. -/
def windowOrderWrong : ChangeSpec := { name := "windowOrder", fn := fun _ => fun
  | [d1, d2, d3, d4] => { results := [.lit (.bool false)], args := [d1, d2, d3, d4] }
  | _ => none }
def WindowOrderWrongFalsely : Prop := windowOrderRow.holds Try.pinned (OpenSpec.ofChange windowOrderWrong)

/-- 'leatlaw11.WindowJoin': WHATEVER THE INPUT: true; the input reads as it did. -/
def windowJoinSpec : ChangeSpec := { name := "windowJoin", fn := fun _ => fun
  | [d1, d2] => { results := [.lit (.bool true)], args := [d1, d2] }
  | _ => none }
def windowJoinRow : OpenClaim := { program := "ytlikikiglicdlaa", sum := "7b26cf01d8dca6c483cc66bcbe5b8996b91750d1d5f1403a2b8ce44f3b49d072", func := "leat/leatlaw11.WindowJoin", spec := "windowJoin", unfollowed := true, recurses := true, apart := false }
def WindowJoinSaid : Prop := windowJoinRow.holds Try.pinned (OpenSpec.ofChange windowJoinSpec)

/-- ITS FALSE NEIGHBOUR: 'it returns false'. Refute it at one input. -/
def windowJoinWrong : ChangeSpec := { name := "windowJoin", fn := fun _ => fun
  | [d1, d2] => { results := [.lit (.bool false)], args := [d1, d2] }
  | _ => none }
def WindowJoinWrongFalsely : Prop := windowJoinRow.holds Try.pinned (OpenSpec.ofChange windowJoinWrong)

/-- 'leatlaw11.WindowCounts': WHATEVER THE INPUT: true; the input reads as it did. -/
def windowCountsSpec : ChangeSpec := { name := "windowCounts", fn := fun _ => fun
  | [d1, d2] => { results := [.lit (.bool true)], args := [d1, d2] }
  | _ => none }
def windowCountsRow : OpenClaim := { program := "ytlikikiglicdlaa", sum := "7b26cf01d8dca6c483cc66bcbe5b8996b91750d1d5f1403a2b8ce44f3b49d072", func := "leat/leatlaw11.WindowCounts", spec := "windowCounts", unfollowed := true, recurses := true, apart := false }
def WindowCountsSaid : Prop := windowCountsRow.holds Try.pinned (OpenSpec.ofChange windowCountsSpec)

/-- ITS FALSE NEIGHBOUR: 'it returns false'. Refute it at one input. -/
def windowCountsWrong : ChangeSpec := { name := "windowCounts", fn := fun _ => fun
  | [d1, d2] => { results := [.lit (.bool false)], args := [d1, d2] }
  | _ => none }
def WindowCountsWrongFalsely : Prop := windowCountsRow.holds Try.pinned (OpenSpec.ofChange windowCountsWrong)

/-- 'leatlaw11.WindowFires': WHATEVER THE INPUT: true; the input reads as it did. -/
def windowFiresSpec : ChangeSpec := { name := "windowFires", fn := fun _ => fun
  | [d1, d2] => { results := [.lit (.bool true)], args := [d1, d2] }
  | _ => none }
def windowFiresRow : OpenClaim := { program := "ytlikikiglicdlaa", sum := "7b26cf01d8dca6c483cc66bcbe5b8996b91750d1d5f1403a2b8ce44f3b49d072", func := "leat/leatlaw11.WindowFires", spec := "windowFires", unfollowed := true, recurses := true, apart := false }
def WindowFiresSaid : Prop := windowFiresRow.holds Try.pinned (OpenSpec.ofChange windowFiresSpec)

/-- ITS FALSE NEIGHBOUR: 'it returns false'. Refute it at one input. -/
def windowFiresWrong : ChangeSpec := { name := "windowFires", fn := fun _ => fun
  | [d1, d2] => { results := [.lit (.bool false)], args := [d1, d2] }
  | _ => none }
def WindowFiresWrongFalsely : Prop := windowFiresRow.holds Try.pinned (OpenSpec.ofChange windowFiresWrong)

/- THE SECOND FORM. 'bulk': how many values and letters a reading holds, each counted each time it is reached (what is shared counts as often as it is met; a slice's spare places count too). A statement '..UptoSaid' is the law's where the arguments, and the package variables that the reading takes, are together of bulk at most 1048576: NARROWER than '..Said'. Prove '..Said' where nothing that the law and all that it calls make is longer than what came in: it says more and counts as full. Else prove '..UptoSaid'. A law counts once. -/
mutual
def uptoBulk {H : Type} : DataW H → Nat
  | .lit (.string bytes) => bytes.length + 1
  | .lit _ => 1
  | .nil => 1
  | .ptr d => uptoBulk d + 1
  | .slice elems spare => uptoBulkAll elems + uptoBulkAll spare + 1
  | .agg parts => uptoBulkAll parts + 1
  | .iface _ d => uptoBulk d + 1
  | .map entries => uptoBulkEntries entries + 1
  | .held _ => 1
def uptoBulkAll {H : Type} : List (DataW H) → Nat
  | [] => 0
  | d :: r => uptoBulk d + uptoBulkAll r
def uptoBulkEntries {H : Type} : List (Lit × DataW H) → Nat
  | [] => 0
  | x :: r => uptoBulkEntry x + uptoBulkEntries r
def uptoBulkEntry {H : Type} : Lit × DataW H → Nat
  | (.string bytes, d) => bytes.length + uptoBulk d + 1
  | (_, d) => uptoBulk d + 1
 end
def uptoSmall : (H : Type) → List (DataW H) → Bool := fun _ ds => decide (uptoBulkAll ds ≤ 1048576)
def OpenSpec.upto (s : _root_.Go.ChangeSpec) : _root_.Go.OpenSpec := { _root_.Go.OpenSpec.ofChange s with cond := some uptoSmall }

/-- 'leatlaw11.WindowSpans', WHERE WHAT IT READS IS OF BULK AT MOST 1048576: true; the input reads as it did. -/
def windowSpansUptoRow : OpenClaim := { program := "ytlikikiglicdlaa", sum := "7b26cf01d8dca6c483cc66bcbe5b8996b91750d1d5f1403a2b8ce44f3b49d072", func := "leat/leatlaw11.WindowSpans", spec := "windowSpans", unfollowed := true, recurses := true, apart := false, narrowed := true }
def WindowSpansUptoSaid : Prop := windowSpansUptoRow.holds Try.pinned (OpenSpec.upto windowSpansSpec)

/-- 'leatlaw11.WindowPlays', WHERE WHAT IT READS IS OF BULK AT MOST 1048576: true; the input reads as it did. -/
def windowPlaysUptoRow : OpenClaim := { program := "ytlikikiglicdlaa", sum := "7b26cf01d8dca6c483cc66bcbe5b8996b91750d1d5f1403a2b8ce44f3b49d072", func := "leat/leatlaw11.WindowPlays", spec := "windowPlays", unfollowed := true, recurses := true, apart := false, narrowed := true }
def WindowPlaysUptoSaid : Prop := windowPlaysUptoRow.holds Try.pinned (OpenSpec.upto windowPlaysSpec)

/-- 'leatlaw11.WindowOrder', WHERE WHAT IT READS IS OF BULK AT MOST 1048576: true; the input reads as it did. -/
def windowOrderUptoRow : OpenClaim := { program := "ytlikikiglicdlaa", sum := "7b26cf01d8dca6c483cc66bcbe5b8996b91750d1d5f1403a2b8ce44f3b49d072", func := "leat/leatlaw11.WindowOrder", spec := "windowOrder", unfollowed := true, recurses := true, apart := false, narrowed := true }
def WindowOrderUptoSaid : Prop := windowOrderUptoRow.holds Try.pinned (OpenSpec.upto windowOrderSpec)

/-- 'leatlaw11.WindowJoin', WHERE WHAT IT READS IS OF BULK AT MOST 1048576: true; the input reads as it did. -/
def windowJoinUptoRow : OpenClaim := { program := "ytlikikiglicdlaa", sum := "7b26cf01d8dca6c483cc66bcbe5b8996b91750d1d5f1403a2b8ce44f3b49d072", func := "leat/leatlaw11.WindowJoin", spec := "windowJoin", unfollowed := true, recurses := true, apart := false, narrowed := true }
def WindowJoinUptoSaid : Prop := windowJoinUptoRow.holds Try.pinned (OpenSpec.upto windowJoinSpec)

/-- 'leatlaw11.WindowCounts', WHERE WHAT IT READS IS OF BULK AT MOST 1048576: true; the input reads as it did. -/
def windowCountsUptoRow : OpenClaim := { program := "ytlikikiglicdlaa", sum := "7b26cf01d8dca6c483cc66bcbe5b8996b91750d1d5f1403a2b8ce44f3b49d072", func := "leat/leatlaw11.WindowCounts", spec := "windowCounts", unfollowed := true, recurses := true, apart := false, narrowed := true }
def WindowCountsUptoSaid : Prop := windowCountsUptoRow.holds Try.pinned (OpenSpec.upto windowCountsSpec)

/-- 'leatlaw11.WindowFires', WHERE WHAT IT READS IS OF BULK AT MOST 1048576: true; the input reads as it did. -/
def windowFiresUptoRow : OpenClaim := { program := "ytlikikiglicdlaa", sum := "7b26cf01d8dca6c483cc66bcbe5b8996b91750d1d5f1403a2b8ce44f3b49d072", func := "leat/leatlaw11.WindowFires", spec := "windowFires", unfollowed := true, recurses := true, apart := false, narrowed := true }
def WindowFiresUptoSaid : Prop := windowFiresUptoRow.holds Try.pinned (OpenSpec.upto windowFiresSpec)

end Rows
end Go.Proofs.Ytlikikiglicdlaa

import Derived.Test.YtaajjejgjnlbgabDoorCtl
namespace Go.Proofs.YtaajjejgjnlbgabDoor
open Go.RowKit

theorem Frame_any (kd ke ti va ma n : Int) (ov : Bool) (w : World) (hn : 0 ≤ n) :
    Calls Tryd.prog 12 #[.agg #[.int .i64 kd, .int .i64 ke, .int .i64 ti, .int .i64 va, .int .i64 ma, .int .u64 n, .bool ov]] w (RefPost w (fits kd ke ti va ma n ov) (frb kd ke ti va ma n ov)) := by
  cases hf : fits kd ke ti va ma n ov
  · refine (Frame_no kd ke ti va ma n ov w hf).mono ?_
    rintro e w' ⟨rfl, h⟩
    exact RefPost.no rfl h
  · refine (Frame_yes kd ke ti va ma n ov w hn hf).mono ?_
    rintro e w' ⟨v', rfl, ho, h⟩
    exact RefPost.yes rfl ho h

end Go.Proofs.YtaajjejgjnlbgabDoor

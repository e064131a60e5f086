/-
  Texts in build order: ZJWeighW, ZJCheck, ZJItem.
-/
import Derived.Test.YtpcbhcdpegbfjaaGreatM20
/-
  weigh walked.
-/
namespace Go.Proofs.YtpcbhcdpegbfjaaGreat.J
open Go.RowKit

/-- What Check tells of the nodes' expressions, wherever it is asked behind w. -/
def ExOk (w : World) (ns : List Nd) : Prop := ∀ n ∈ ns, 2 ≤ n.kind ∧ n.kind ≤ 4 → ∀ w', Below w.heap.size w w' → Calls Tryz.prog 49 #[n.e.val] w' fun r w'' => r = .returned (.int .i64 (chk n.e)) ∧ Below w'.heap.size w' w''
theorem ExOk.below {w w' : World} {ns : List Nd} (h : ExOk w ns) (hb : Below w.heap.size w w') : ExOk w' ns := fun n hn hk w'' h2 => h n hn hk w'' (hb.trans (h2.mono hb.size))
theorem wtsL_at {ns : List Nd} {l ws : List Nat} {t i : Nat} {n : Nd} (h : l[t]? = some i) (hn : ns[i]? = some n) : wtsL ns (l.drop t) ws = wtsL ns (l.drop (t + 1)) (ws.set i (wt1 n ws)) := by
  have hl := lt_of_get h
  rw [List.drop_eq_getElem_cons hl]
  rw [List.getElem?_eq_getElem hl] at h
  cases h
  unfold wtsL
  rw [List.foldl_cons, getD_of hn]
end Go.Proofs.YtpcbhcdpegbfjaaGreat.J
/-
  Max, ContainsFunc; Check and Weights.
-/
namespace Go.Proofs.YtpcbhcdpegbfjaaGreat.J
open Go.RowKit

end Go.Proofs.YtpcbhcdpegbfjaaGreat.J
/-
  Logs: items, and whether they may stand there.
-/
namespace Go.Proofs.YtpcbhcdpegbfjaaGreat.J
open Go.RowKit

/-- An item of a log. -/
structure It where
  kind : Int
  key : Int
  time : Int
  val : Int
  mark : Int
def It.cs (i : It) : List Value := [.int .i64 i.kind, .int .i64 i.key, .int .i64 i.time, .int .i64 i.val, .int .i64 i.mark]
theorem It.cs_len (i : It) : i.cs.length = 5 := rfl
end Go.Proofs.YtpcbhcdpegbfjaaGreat.J

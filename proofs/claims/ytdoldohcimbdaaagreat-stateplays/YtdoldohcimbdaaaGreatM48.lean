/-
  Texts in build order: SRFs.
-/
import Derived.Test.YtdoldohcimbdaaaGreatM47
/-
  The document's Fires.
-/
namespace Go.Proofs.YtdoldohcimbdaaaGreat
open Go.RowKit

set_option maxHeartbeats 2000000 in
set_option maxRecDepth 100000 in
/-- Of a reduce ahead of the last mark nothing fires. -/
theorem rFires_idle (w : World) (lv : Value) {mk : Int} (h : mk ≠ 9223372036854775807) : Calls Tryz.prog 12 #[.bool true, lv, .int .i64 mk] w fun e w' => e = .returned (.tuple #[.slice none 0 0, lv]) ∧ w' = w := by
  have hmk : (mk == 9223372036854775807) = false := by simpa using h
  have hmk2 : (mk != 9223372036854775807) = true := by simpa using h
  go_enter Tryz.func12, Tryz.ntmps12
  go_wp2_with fail
  exact bodyPost_ret (v := .tuple #[.slice none 0 0, lv]) (by simp [results, Tryz.results12, go_sem]; try rfl) rfl ⟨rfl, rfl⟩
def FsPost (w : World) (mk : Int) (l : List Pn) (e : Ending) (w' : World) : Prop := ∃ u1 u2, e = .returned (.tuple #[u1, u2]) ∧ OwnL 39 3 Rc.cs w.heap.size w' u1 (outF mk (srt l)) ∧ OwnL 70 4 Pn.cs w.heap.size w' u2 (leftF mk (srt l)) ∧ Below w.heap.size w w'
set_option maxHeartbeats 2000000 in
set_option maxRecDepth 100000 in
theorem rFires_any {w : World} {v : Value} {l : List Pn} (hl : LSeg 4 Pn.cs w.heap.size w v l) (hn : l.length ≤ 100000) (red : Bool) (mk : Int) (h : red = true → mk = 9223372036854775807) : Calls Tryz.prog 12 #[.bool red, v, .int .i64 mk] w (FsPost w mk l) := by
  have HF := hide (rFire_any hl hn mk)
  obtain ⟨ao, cap, rfl⟩ := hl.shapeOf
  clear hl
  cases red
  · clear h
    go_enter Tryz.func12, Tryz.ntmps12
    go_wp2_with (first | (go_at_call 33; refine HF.out.mono ?_; rintro e w1 ⟨u1, u2, rfl, o1, o2, b1⟩; have O1 := hide o1; have O2 := hide o2; have B1 := hide b1; obtain ⟨a1, c1, rfl⟩ := o1.shape; obtain ⟨a2, c2, rfl⟩ := o2.shape; clear o1 o2 b1) | fail)
    exact bodyPost_ret (v := .tuple #[.slice a1 (outF mk (srt l)).length c1, .slice a2 (leftF mk (srt l)).length c2]) (by simp [results, Tryz.results12, go_sem]; try rfl) rfl ⟨_, _, rfl, O1.out, O2.out, B1.out⟩
  · have hm := h rfl
    subst hm
    clear h
    go_enter Tryz.func12, Tryz.ntmps12
    go_wp2_with (first | (go_at_call 33; refine HF.out.mono ?_; rintro e w1 ⟨u1, u2, rfl, o1, o2, b1⟩; have O1 := hide o1; have O2 := hide o2; have B1 := hide b1; obtain ⟨a1, c1, rfl⟩ := o1.shape; obtain ⟨a2, c2, rfl⟩ := o2.shape; clear o1 o2 b1) | fail)
    exact bodyPost_ret (v := .tuple #[.slice a1 (outF 9223372036854775807 (srt l)).length c1, .slice a2 (leftF 9223372036854775807 (srt l)).length c2]) (by simp [results, Tryz.results12, go_sem]; try rfl) rfl ⟨_, _, rfl, O1.out, O2.out, B1.out⟩
end Go.Proofs.YtdoldohcimbdaaaGreat

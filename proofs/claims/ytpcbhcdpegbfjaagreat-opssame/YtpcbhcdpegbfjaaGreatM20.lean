/-
  Texts in build order: WSpans2.
-/
import Derived.Test.YtpcbhcdpegbfjaaGreatM19
/-
  Spans.
-/
namespace Go.Proofs.YtpcbhcdpegbfjaaGreat
open Go.RowKit

def pSpans (k size slide t : Int) : List Sp := if size < 1 then [] else if k = 1 then rgl size size t else if k = 2 then rgl size slide t else if k = 3 then [⟨t, wrap64 (t + size)⟩] else []
theorem pSpans_len (k size slide t : Int) : (pSpans k size slide t).length ≤ 64 := by
  unfold pSpans
  split
  · simp
  split
  · exact rgl_len _ _ _
  split
  · exact rgl_len _ _ _
  split <;> simp
theorem own_one {α : Type} {t sz k base : Nat} {cs : α → List Value} {w : World} (x : α) (hcs : (cs x).length = sz) (hk : k = w.heap.size) (hb : base ≤ k) : OwnL t sz cs base (w.alloc (.cells (cs x).toArray t)) (.slice (some ⟨k, 0, none⟩) 1 1) [x] := by
  subst hk
  refine ⟨by simp [hcs], .inr ⟨w.heap.size, 1, _, rfl, hb, BoxT.new t w _, by simp, by unfold maxLen; omega, by simp [hcs], ?_⟩⟩
  simp [← hcs]
set_option maxHeartbeats 2000000 in
set_option maxRecDepth 100000 in
theorem Spans_any (w : World) (k : Int) {size slide : Int} (t : Int) (hs : In64 size) (hl : In64 slide) :
    Calls Tryz.prog 119 #[.agg #[.int .i64 k, .int .i64 size, .int .i64 slide], .int .i64 t] w fun e w' => ∃ u, e = .returned u ∧ OwnL 72 2 Sp.cs w.heap.size w' u (pSpans k size slide t) ∧ Below w.heap.size w w' := by
  have hb := below_box w (.cells #[.int .i64 k, .int .i64 size, .int .i64 slide] 27)
  have HB := hide hb
  unfold pSpans
  by_cases h1 : size < 1
  · rw [if_pos h1]
    clear hs hl
    go_enter Tryz.func119, Tryz.ntmps119
    go_wp2_with fail
    go_ret
    exact ⟨_, rfl, OwnL.nil _ _ _ _ _, HB.out⟩
  rw [if_neg h1]
  have HR1 := hide (fun W => regular_any W (slide := size) (t := t) (show 1 ≤ size by omega) hs hs)
  have HR2 := hide (fun W => regular_any W (slide := slide) (t := t) (show 1 ≤ size by omega) hs hl)
  clear hs hl hb
  by_cases k1 : k = 1
  · subst k1
    rw [if_pos rfl]
    go_enter Tryz.func119, Tryz.ntmps119
    go_wp2_with (go_at_call 133; refine (HR1.out _).mono ?_; rintro e w1 ⟨u, rfl, o1, b1⟩)
    go_ret
    exact ⟨_, rfl, o1.mono (by simp), HB.out.trans (b1.mono HB.out.size)⟩
  rw [if_neg k1]
  by_cases k2 : k = 2
  · subst k2
    rw [if_pos rfl]
    go_enter Tryz.func119, Tryz.ntmps119
    go_wp2_with (go_at_call 133; refine (HR2.out _).mono ?_; rintro e w1 ⟨u, rfl, o1, b1⟩)
    go_ret
    exact ⟨_, rfl, o1.mono (by simp), HB.out.trans (b1.mono HB.out.size)⟩
  rw [if_neg k2]
  by_cases k3 : k = 3
  · subst k3
    rw [if_pos rfl]
    have HB2 : Hid (Below w.heap.size w ((w.alloc (.cells #[.int .i64 3, .int .i64 size, .int .i64 slide] 27)).alloc (.cells (Sp.cs ⟨t, wrap64 (t + size)⟩).toArray 72))) := below_box2 w _ _
    clear HR1 HR2
    go_enter Tryz.func119, Tryz.ntmps119
    go_wp2_with fail
    go_ret
    exact ⟨_, rfl, own_one (t := 72) (cs := Sp.cs) ⟨t, wrap64 (t + size)⟩ rfl (by simp) (by omega), HB2.out⟩
  rw [if_neg k3]
  go_enter Tryz.func119, Tryz.ntmps119
  go_wp2_with fail
  go_ret
  exact ⟨_, rfl, OwnL.nil _ _ _ _ _, HB.out⟩
end Go.Proofs.YtpcbhcdpegbfjaaGreat

/-
  Walks over package ring: queues of strings by a channel.
-/
import Derived.Test.YtaoejpgjdoikiaaRTBase
namespace Go.Proofs.Ytaoejpgjdoikiaa
open Go.RowKit Go.Conc

set_option maxRecDepth 100000 in
theorem SendFullS {w : World} {k c mo s r : Nat} {buf : Array Value} (hb : BoxT 78 w k #[.chan (some c)]) (hc : w.heap[c]? = some (.chan mo buf false s r false)) (hfull : mo ≤ buf.size) (x : ByteArray) :
    Calls Try.prog 35 #[.pointer (some ⟨k, 0, none⟩), Value.string x] w fun e w' => e = .returned (.bool false) ∧ Below w.heap.size w w' := by
  have hbl : Below w.heap.size w (w.alloc (.cells #[Value.string x] 9)) := (Below.refl _ _).alloc (Nat.le_refl _) _
  have hc1 : (w.alloc (.cells #[Value.string x] 9)).heap[c]? = some (.chan mo buf false s r false) := by rw [hbl.block c (Array.getElem?_eq_some_iff.1 hc).1]; exact hc
  have h0 := (hb.alloc (.cells #[Value.string x] 9)).cells1
  refine calls_of_loneTo fun cs => ?_
  have e : Frame.enter Try.prog 35 #[.pointer (some ⟨k, 0, none⟩), Value.string x] .normal = (base 35).at ⟨#[.pointer (some ⟨k, 0, none⟩), Value.string x, undef, undef, undef, undef, undef, undef, undef, undef, undef, undef], []⟩ [.code (Try.f35.body.getD .skip)] := by
    simp [Frame.enter, Frame.at, Try.func35, base, Try.f35]
  rw [e]
  refine LoneTo.goes (n := 15) ?_
  simp only [Try.f35, Option.getD_some]
  s_c stepG_seq
  s_reg
  s_op
  s_op
  s_c stepG_region_end
  s_c stepG_seq
  s_reg
  s_op
  s_op
  s_op
  s_op
  s_c stepG_region_end
  s_c stepG_seq
  s_reg
  s_stop
  generalize w.alloc (.cells #[Value.string x] 9) = w1 at *
  refine LoneTo.step (step_lone_select_send_full (c := c) (z' := .pointer none) (cap := mo) (s := s) (r := r) (tm := false) (stepG_comm (cases := #[scase c (.pointer (some ⟨w.heap.size, 0, none⟩)) (.pointer none)]) (blocking := false) (shape := .select) (w' := w1) rfl rfl (by decide) (by simp [go_sem, execOp, scase, Act.eval])) hc1 hfull) ?_
  rw [Frame.finish_at]
  walk_nrm
  refine LoneTo.goes (n := 10) ?_
  s_op
  s_op
  s_c stepG_region_end
  s_c stepG_block
  s_cond false
  s_c stepG_seq
  s_reg
  s_op
  s_c stepG_region_end
  s_c stepG_ret'
  s_stop
  exact LoneTo.done ⟨.returned (.bool false), _, rfl, ⟨rfl, hbl⟩, rfl, rfl, rfl, rfl, _, Try.func35, by simp [results, Try.f35, Frame.at]⟩

set_option maxRecDepth 100000 in
theorem SendRoomS {w : World} {k c mo s r : Nat} {buf : Array Value} (hb : BoxT 78 w k #[.chan (some c)]) (hc : w.heap[c]? = some (.chan mo buf false s r false)) (hroom : buf.size < mo) (x : ByteArray) :
    Calls Try.prog 35 #[.pointer (some ⟨k, 0, none⟩), Value.string x] w fun e w' => e = .returned (.bool true) ∧ w' = (w.alloc (.cells #[Value.string x] 9)).setChan c mo (buf.push (.pointer (some ⟨w.heap.size, 0, none⟩))) false (s + 1) r false := by
  have hbl : Below w.heap.size w (w.alloc (.cells #[Value.string x] 9)) := (Below.refl _ _).alloc (Nat.le_refl _) _
  have hc1 : (w.alloc (.cells #[Value.string x] 9)).heap[c]? = some (.chan mo buf false s r false) := by rw [hbl.block c (Array.getElem?_eq_some_iff.1 hc).1]; exact hc
  have h0 := (hb.alloc (.cells #[Value.string x] 9)).cells1
  refine calls_of_loneTo fun cs => ?_
  have e : Frame.enter Try.prog 35 #[.pointer (some ⟨k, 0, none⟩), Value.string x] .normal = (base 35).at ⟨#[.pointer (some ⟨k, 0, none⟩), Value.string x, undef, undef, undef, undef, undef, undef, undef, undef, undef, undef], []⟩ [.code (Try.f35.body.getD .skip)] := by
    simp [Frame.enter, Frame.at, Try.func35, base, Try.f35]
  rw [e]
  refine LoneTo.goes (n := 15) ?_
  simp only [Try.f35, Option.getD_some]
  s_c stepG_seq
  s_reg
  s_op
  s_op
  s_c stepG_region_end
  s_c stepG_seq
  s_reg
  s_op
  s_op
  s_op
  s_op
  s_c stepG_region_end
  s_c stepG_seq
  s_reg
  s_stop
  generalize w.alloc (.cells #[Value.string x] 9) = w1 at *
  refine LoneTo.step (step_lone_select_send_room (c := c) (z' := .pointer none) (cap := mo) (s := s) (r := r) (tm := false) (stepG_comm (cases := #[scase c (.pointer (some ⟨w.heap.size, 0, none⟩)) (.pointer none)]) (blocking := false) (shape := .select) (w' := w1) rfl rfl (by decide) (by simp [go_sem, execOp, scase, Act.eval])) hc1 hroom) ?_
  rw [Frame.finish_at]
  walk_nrm
  refine LoneTo.goes (n := 10) ?_
  s_op
  s_op
  s_c stepG_region_end
  s_c stepG_block
  s_cond true
  s_c stepG_seq
  s_reg
  s_op
  s_c stepG_region_end
  s_c stepG_ret'
  s_stop
  exact LoneTo.done ⟨.returned (.bool true), _, rfl, ⟨rfl, rfl⟩, rfl, rfl, rfl, rfl, _, Try.func35, by simp [results, Try.f35, Frame.at]⟩
theorem SendS {w : World} {k c mo s r : Nat} {gs : List Nat} {q : List ByteArray} (H : Ty 78 9 (Value.string) w k c mo gs q s r) (x : ByteArray) :
    Calls Try.prog 35 #[.pointer (some ⟨k, 0, none⟩), Value.string x] w fun e w' => e = .returned (.bool (decide (q.length < mo))) ∧ (∃ s', Ty 78 9 (Value.string) w' k c mo (if q.length < mo then gs ++ [w.heap.size] else gs) (if q.length < mo then q ++ [x] else q) s' r) ∧ Turned c c w w' := by
  by_cases hlt : q.length < mo
  · refine (SendRoomS H.box H.ch (by rw [ptrs_size, H.len]; exact hlt) x).mono ?_
    rintro e w' ⟨rfl, rfl⟩
    simp only [hlt, if_true, decide_true]
    exact ⟨trivial, ⟨_, H.sent x⟩, (Turned.below ((Below.refl _ _).alloc (Nat.le_refl _) _)).trans (Turned.chan c c _ _ _ _ _ _ _)⟩
  · refine (SendFullS H.box H.ch (by rw [ptrs_size, H.len]; omega) x).mono ?_
    rintro e w' ⟨rfl, hb⟩
    simp only [hlt, if_false, decide_false]
    exact ⟨trivial, ⟨_, H.below hb⟩, Turned.below hb⟩

set_option maxRecDepth 100000 in
theorem RecvNS {w : World} {k c mo s r : Nat} (H : Ty 78 9 (Value.string) w k c mo [] [] s r) :
    Calls Try.prog 49 #[.pointer (some ⟨k, 0, none⟩)] w fun e w' => e = .returned (.tuple #[.string ⟨#[]⟩, .bool false]) ∧ w' = w := by
  have h0 := H.box.cells1
  have hc1 : w.heap[c]? = some (.chan mo #[] false s r false) := H.ch
  refine calls_of_loneTo fun cs => ?_
  have e : Frame.enter Try.prog 49 #[.pointer (some ⟨k, 0, none⟩)] .normal = (base 49).at ⟨#[.pointer (some ⟨k, 0, none⟩), undef, undef, undef, undef, undef, undef, undef, undef, undef, undef, undef, undef, undef, undef, undef, undef, undef], []⟩ [.code (Try.f49.body.getD .skip)] := by
    simp [Frame.enter, Frame.at, Try.func49, base, Try.f49]
    try rfl
  rw [e]
  refine LoneTo.goes (n := 15) ?_
  simp only [Try.f49, Option.getD_some]
  s_c stepG_seq
  s_reg
  s_op
  s_op
  s_c stepG_region_end
  s_c stepG_seq
  s_reg
  s_op
  s_op
  s_op
  s_op
  s_c stepG_region_end
  s_c stepG_seq
  s_reg
  s_stop
  refine LoneTo.step (step_lone_select_default (c := c) (z := .pointer none) (cap := mo) (s := s) (r := r) (tm := false) (stepG_comm (cases := #[rcase c (.pointer none)]) (blocking := false) (shape := .select) (w' := w) rfl rfl (by decide) (by simp [go_sem, execOp, rcase, Act.eval])) hc1) ?_
  rw [Frame.finish_at]
  walk_nrm
  refine LoneTo.goes (n := 16) ?_
  s_op
  s_op
  s_c stepG_region_end
  s_c stepG_block
  s_cond false
  s_c stepG_seq
  s_reg
  s_op
  s_c stepG_region_end
  s_c stepG_seq
  s_reg
  s_op
  s_op
  s_op
  s_c stepG_region_end
  s_c stepG_ret'
  s_stop
  exact LoneTo.done ⟨.returned (.tuple #[.string ⟨#[]⟩, .bool false]), _, rfl, ⟨rfl, rfl⟩, rfl, rfl, rfl, rfl, _, Try.func49, by simp [results, Try.f49, Frame.at]⟩
set_option maxRecDepth 100000 in
theorem RecvS {w : World} {k c mo s r g : Nat} {gs : List Nat} {x : ByteArray} {q : List ByteArray} (H : Ty 78 9 (Value.string) w k c mo (g :: gs) (x :: q) s r) :
    Calls Try.prog 49 #[.pointer (some ⟨k, 0, none⟩)] w fun e w' => e = .returned (.tuple #[Value.string x, .bool true]) ∧ Ty 78 9 (Value.string) w' k c mo gs q s (r + 1) ∧ Turned c c w w' := by
  have h0 := H.box.cells1
  have hc1 := H.ch
  have H2 := hide H.got
  have hT := hide (Turned.chan c c w mo (ptrs gs) false s (r + 1) false)
  have hcell : (w.setChan c mo (ptrs gs) false s (r + 1) false).cell? ⟨g, 0, none⟩ = some (Value.string x) := by
    have h3 := H.each 0 g x rfl rfl
    have h4 : BoxT 9 (w.setChan c mo (ptrs gs) false s (r + 1) false) g #[Value.string x] := by
      unfold BoxT at *
      rw [setChan_heap _ _ _ _ _ _ _ _ _ (H.neg (List.mem_cons_self ..))]; exact h3
    exact h4.cells1
  have hpt := ptrs_tail g gs
  have hph := ptrs_head g gs
  have hps : 0 < (ptrs (g :: gs)).size := by simp [ptrs]
  clear H
  refine calls_of_loneTo fun cs => ?_
  have e : Frame.enter Try.prog 49 #[.pointer (some ⟨k, 0, none⟩)] .normal = (base 49).at ⟨#[.pointer (some ⟨k, 0, none⟩), undef, undef, undef, undef, undef, undef, undef, undef, undef, undef, undef, undef, undef, undef, undef, undef, undef], []⟩ [.code (Try.f49.body.getD .skip)] := by
    simp [Frame.enter, Frame.at, Try.func49, base, Try.f49]
    try rfl
  rw [e]
  refine LoneTo.goes (n := 15) ?_
  simp only [Try.f49, Option.getD_some]
  s_c stepG_seq
  s_reg
  s_op
  s_op
  s_c stepG_region_end
  s_c stepG_seq
  s_reg
  s_op
  s_op
  s_op
  s_op
  s_c stepG_region_end
  s_c stepG_seq
  s_reg
  s_stop
  refine LoneTo.step (step_lone_select_recv_buf (c := c) (z := .pointer none) (cap := mo) (buf := ptrs (g :: gs)) (s := s) (r := r) (tm := false) (stepG_comm (cases := #[rcase c (.pointer none)]) (blocking := false) (shape := .select) (w' := w) rfl rfl (by decide) (by simp [go_sem, execOp, rcase, Act.eval])) hc1 hps) ?_
  rw [hpt, hph]
  generalize w.setChan c mo (ptrs gs) false s (r + 1) false = w2 at *
  rw [Frame.finish_at]
  walk_nrm
  refine LoneTo.goes (n := 19) ?_
  s_op
  s_op
  s_c stepG_region_end
  s_c stepG_block
  s_cond true
  s_c stepG_seq
  s_reg
  s_op
  s_op
  s_c stepG_region_end
  s_c stepG_seq
  s_reg
  s_op
  s_op
  s_op
  s_op
  s_op
  s_c stepG_region_end
  s_c stepG_ret'
  s_stop
  exact LoneTo.done ⟨.returned (.tuple #[Value.string x, .bool true]), _, rfl, ⟨rfl, H2.out, hT.out⟩, rfl, rfl, rfl, rfl, _, Try.func49, by simp [results, Try.f49, Frame.at]⟩

theorem bytes79 : ∃ i, Try.prog.info? 79 = some i ∧ i.bytes = 8 := by
  have h : (Try.prog.info? 79).map (·.bytes) = some 8 := by kernel_rfl
  obtain ⟨i, hi, hb⟩ := Option.map_eq_some_iff.1 h
  exact ⟨i, hi, hb⟩
theorem mkChanS (w : World) (n : Int) (h0 : 0 ≤ n) (h1 : n ≤ 65536) : (Instr.makeChan 76 (.int .i64 n)).run Try.prog w = .ok (.chan (some w.heap.size)) (w.alloc (.chan n.toNat #[] false 0 0 false)) := by
  obtain ⟨i, hi, hb⟩ := bytes79
  have h2 := run_makeChan (P := Try.prog) (w := w) Try.underlying76 hi .i64 n.toNat (by omega) (by rw [hb]; omega)
  rw [Int.toNat_of_nonneg h0] at h2
  exact h2
set_option maxRecDepth 100000 in
theorem NewTryS (w : World) (n : Int) :
    Calls Try.prog 34 #[.int .i64 n] w fun e w' => e = .returned (.pointer (some ⟨w.heap.size + 1, 0, none⟩)) ∧ Ty 78 9 (Value.string) w' (w.heap.size + 1) w.heap.size (min (max n 1) 65536).toNat [] [] 0 0 ∧ Below w.heap.size w w' := by
  have hmk := mkChanS w (min (max n 1) 65536) (by omega) (by omega)
  go_enter Try.func34, Try.ntmps34
  go_wp2_with (first | (go_at_call 37; refine (within_any w n).mono ?_; rintro e w1 ⟨rfl, rfl⟩) | fail)
  go_ret
  refine ⟨by simp, ⟨?_, ?_, rfl, fun i g x h => by simp at h⟩, ((Below.refl _ _).alloc (Nat.le_refl _) _).alloc (by simp) _⟩
  · exact BoxT.new_at (by simp)
  · rw [Below.heap_alloc _ _ _ (by simp)]
    exact heap_alloc_new _ _

set_option maxRecDepth 100000 in
theorem Either0S {w : World} {k c mo s r g : Nat} {gs : List Nat} {x : ByteArray} {q : List ByteArray} (H : Ty 78 9 (Value.string) w k c mo (g :: gs) (x :: q) s r) (vo : Value) :
    Calls Try.prog 36 #[.pointer (some ⟨k, 0, none⟩), vo] w fun e w' => e = .returned (.tuple #[Value.string x, .int .i64 0]) ∧ Ty 78 9 (Value.string) w' k c mo gs q s (r + 1) ∧ Turned c c w w' := by
  have hr := RecvS H
  clear H
  go_enter Try.func36, Try.ntmps36
  go_wp2_with (first | (go_at_call 49; refine hr.mono ?_; rintro e w1 ⟨rfl, h1, h2⟩) | fail)
  go_ret2
  exact ⟨rfl, h1, h2⟩
set_option maxRecDepth 100000 in
theorem Either1S {w : World} {k c mo s r k2 c2 mo2 s2 r2 g : Nat} {gs : List Nat} {x : ByteArray} {q : List ByteArray} (H : Ty 78 9 (Value.string) w k c mo [] [] s r) (H2 : Ty 78 9 (Value.string) w k2 c2 mo2 (g :: gs) (x :: q) s2 r2) :
    Calls Try.prog 36 #[.pointer (some ⟨k, 0, none⟩), .pointer (some ⟨k2, 0, none⟩)] w fun e w' => e = .returned (.tuple #[Value.string x, .int .i64 1]) ∧ Ty 78 9 (Value.string) w' k2 c2 mo2 gs q s2 (r2 + 1) ∧ Turned c2 c2 w w' := by
  have hr := RecvNS H
  have hr2 := RecvS H2
  clear H H2
  go_enter Try.func36, Try.ntmps36
  go_wp2_with fail
  go_at_call 49
  refine hr.mono ?_
  rintro e w1 ⟨rfl, rfl⟩
  go_wp2_with (first | (go_at_call 49; refine hr2.mono ?_; rintro e w2 ⟨rfl, h1, h2⟩) | fail)
  go_ret2
  exact ⟨rfl, h1, h2⟩
set_option maxRecDepth 100000 in
theorem EitherNS {w : World} {k c mo s r k2 c2 mo2 s2 r2 : Nat} (H : Ty 78 9 (Value.string) w k c mo [] [] s r) (H2 : Ty 78 9 (Value.string) w k2 c2 mo2 [] [] s2 r2) :
    Calls Try.prog 36 #[.pointer (some ⟨k, 0, none⟩), .pointer (some ⟨k2, 0, none⟩)] w fun e w' => e = .returned (.tuple #[.string ⟨#[]⟩, .int .i64 (-1)]) ∧ w' = w := by
  have hr := RecvNS H
  have hr2 := RecvNS H2
  clear H H2
  go_enter Try.func36, Try.ntmps36
  go_wp2_with fail
  go_at_call 49
  refine hr.mono ?_
  rintro e w1 ⟨rfl, rfl⟩
  go_wp2_with (first | (go_at_call 49; refine hr2.mono ?_; rintro e w2 ⟨rfl, rfl⟩) | fail)
  go_ret2
  exact ⟨rfl, rfl⟩
end Go.Proofs.Ytaoejpgjdoikiaa

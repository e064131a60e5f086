/-
  Walks over the document's disk: Read, Delete, Sync.
-/
import Derived.Test.YtnokibjhkdaamaaDDrop
namespace Go.Proofs.Ytnokibjhkdaamaa
open Go.RowKit Go.Maps

theorem find_dead {p : Pd} (h : p.left = 0) (s : List UInt8) : pFind p s = (none, 23) := by unfold pFind; rw [if_pos h]
theorem find_no {p : Pd} (h : p.left ≠ 0) (hr : Rise p.l) {s : List UInt8} (hs : isAt s p.l = false) : pFind p s = (none, 20) := by
  unfold pFind
  rw [if_neg h, fGet_pos hr, hs]
  rfl
theorem find_yes {p : Pd} (h : p.left ≠ 0) (hr : Rise p.l) {s : List UInt8} (hs : isAt s p.l = true) : ∃ f, pFind p s = (some f, 0) ∧ p.l[pos s p.l]? = some f ∧ f.n = s := by
  obtain ⟨f, hf, hn⟩ := isAt_get hs
  refine ⟨f, ?_, hf, hn⟩
  unfold pFind
  rw [if_neg h, fGet_pos hr, hs, if_pos rfl, hf]
theorem RAt.at_pos {w : World} {R : Nat} {p : Pd} {rs : List Rf} {vl : Value} (h : RAt w R p rs vl) {i : Nat} {f : Fi} (hf : p.l[i]? = some f) : ∃ r, rs[i]? = some r ∧ r.f = f := by
  rw [h.fi i] at hf
  obtain ⟨r, hr, e⟩ := Option.map_eq_some_iff.1 hf
  exact ⟨r, hr, e⟩

set_option maxHeartbeats 2000000 in
set_option maxRecDepth 100000 in
theorem rRead {w : World} {R n : Nat} {p : Pd} {rs : List Rf} {vl : Value} (h : RAt w R p rs vl) (hok : Ok p n) (s : ByteArray) :
    Calls Try.prog 28 #[.pointer (some ⟨R, 0, none⟩), .string s] w fun e w' => ∃ v, e = .returned (.tuple #[v, .int .i64 (pFind p (nm s)).2]) ∧ Seg w' v (fData (pFind p (nm s)).1) ∧ ∃ q, w' = w.drewN q := by
  obtain ⟨ao, cap, rfl, hc1, hc2⟩ := h.cap
  have hd := rDead h
  have hat := rAt h (by rw [h.len]; exact Nat.le_trans hok.len hok.many) s
  have HH := hide h
  clear h
  by_cases h0 : p.left = 0
  · have e2 : (p.left == 0) = true := by simp [h0]
    rw [e2] at hd
    have HF := hide (find_dead h0 (nm s))
    rw [HF.out]
    clear hat
    go_enter Try.func28, Try.ntmps28
    go_wp2_with fail
    refine hd.mono ?_
    rintro e w1 ⟨rfl, rfl⟩
    go_wp2
    go_ret2
    exact ⟨_, rfl, Seg.nil _, 0, rfl⟩
  · have e2 : (p.left == 0) = false := by simp [h0]
    rw [e2] at hd
    cases his : isAt (nm s) p.l with
    | false =>
      rw [find_no h0 hok.rise his]
      rw [his] at hat
      generalize pos (nm s) p.l = i at *
      clear his
      go_enter Try.func28, Try.ntmps28
      go_wp2_with fail
      refine hd.mono ?_
      rintro e w1 ⟨rfl, rfl⟩
      go_wp2_with fail
      refine hat.mono ?_
      rintro e w2 ⟨rfl, q, rfl⟩
      go_wp2
      go_ret2
      exact ⟨_, rfl, Seg.nil _, q, rfl⟩
    | true =>
      obtain ⟨f, hf, hpf, hn⟩ := find_yes h0 hok.rise his
      rw [hf]
      rw [his] at hat
      obtain ⟨r, hr, rfl⟩ := HH.out.at_pos hpf
      have hil : pos (nm s) p.l < rs.length := (List.getElem?_eq_some_iff.1 hr).1
      generalize pos (nm s) p.l = i at *
      obtain ⟨b, off, rfl, d0, d1, d2⟩ := HH.out.file hr
      obtain ⟨c0, c1, c2⟩ := HH.out.box.cells3
      have HS := hide (HH.out.data r (List.mem_of_getElem? hr))
      clear his hf hpf hn hr
      go_enter Try.func28, Try.ntmps28
      go_wp2_with fail
      refine hd.mono ?_
      rintro e w1 ⟨rfl, rfl⟩
      go_wp2_with fail
      refine hat.mono ?_
      rintro e w2 ⟨rfl, q, rfl⟩
      clear hat hd
      go_wp2
      go_ret2
      exact ⟨_, rfl, HS.out, q, rfl⟩

/-- What a call of the document's disk leaves. -/
def RefPost (w : World) (R : Nat) (q : Pd × Int) (e : Ending) (w' : World) : Prop := e = .returned (.int .i64 q.2) ∧ (∃ rs' vl', RAt w' R q.1 rs' vl') ∧ TurnedR R w w'

set_option maxHeartbeats 2000000 in
set_option maxRecDepth 100000 in
theorem rDelete {w : World} {R n : Nat} {p : Pd} {rs : List Rf} {vl : Value} (h : RAt w R p rs vl) (hok : Ok p n) (hlf : (Lit.int .i64 p.left).wf = true) (s : ByteArray) :
    Calls Try.prog 26 #[.pointer (some ⟨R, 0, none⟩), .string s] w (RefPost w R (pDelete p (nm s))) := by
  obtain ⟨ao, cap, rfl, hc1, hc2⟩ := h.cap
  have hd := rDead h
  have hll : rs.length ≤ 1000000 := by rw [h.len]; exact Nat.le_trans hok.len hok.many
  have hat := rAt h hll s
  have HH := hide h
  clear h
  unfold pDelete
  by_cases h0 : p.left = 0
  · have e2 : (p.left == 0) = true := by simp [h0]
    rw [e2] at hd
    rw [find_dead h0 (nm s)]
    clear hat
    go_enter Try.func26, Try.ntmps26
    go_wp2_with fail
    refine hd.mono ?_
    rintro e w1 ⟨rfl, rfl⟩
    go_wp2
    go_ret
    exact ⟨rfl, ⟨_, _, HH.out⟩, Turned.refl _ _ _⟩
  · have e2 : (p.left == 0) = false := by simp [h0]
    rw [e2] at hd
    cases his : isAt (nm s) p.l with
    | false =>
      rw [find_no h0 hok.rise his]
      rw [his] at hat
      generalize pos (nm s) p.l = i at *
      clear his
      go_enter Try.func26, Try.ntmps26
      go_wp2_with fail
      refine hd.mono ?_
      rintro e w1 ⟨rfl, rfl⟩
      go_wp2_with fail
      refine hat.mono ?_
      rintro e w2 ⟨rfl, q, rfl⟩
      go_wp2
      go_ret
      have hb := below_drewN' (Below.refl w1.heap.size w1) q
      exact ⟨rfl, ⟨_, _, HH.out.below hb⟩, Turned.below hb⟩
    | true =>
      obtain ⟨f, hf, hpf, hn⟩ := find_yes h0 hok.rise his
      rw [hf]
      rw [his] at hat
      have HR := hide hok.rise
      generalize pos (nm s) p.l = i at *
      clear his hf hpf hn
      go_enter Try.func26, Try.ntmps26
      go_wp2_with fail
      refine hd.mono ?_
      rintro e w1 ⟨rfl, rfl⟩
      go_wp2_with fail
      refine hat.mono ?_
      rintro e w2 ⟨rfl, q, rfl⟩
      clear hat hd
      have hb := below_drewN' (Below.refl w1.heap.size w1) q
      have HB := hide hb
      have H2 := hide (HH.out.below hb)
      generalize w1.drewN q = w2 at *
      clear hb
      go_wp2_with fail
      refine (rDrop H2.out hll HR.out s).mono ?_
      rintro e w3 ⟨rfl, ⟨rs3, vl3, h3, -⟩, t3⟩
      have H3 := hide (And.intro h3 t3)
      clear h3 t3
      go_wp2_with fail
      refine (rDone H3.out.1 hlf).mono ?_
      rintro e w4 ⟨rfl, h4, t4⟩
      have H4 := hide (And.intro h4 t4)
      clear h4 t4
      go_wp2
      go_ret
      exact ⟨rfl, ⟨_, _, H4.out.1⟩, ((Turned.below HB.out).trans H3.out.2).trans H4.out.2⟩
end Go.Proofs.Ytnokibjhkdaamaa

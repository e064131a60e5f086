/-
  Texts of the vault, in build order: VWorld.
-/
import Derived.Test.YtbfhcbihgleddaaGreatDoorM43
import Derived.Test.YtbfhcbihgleddaaGreatDoorM39
import Derived.Test.YtbfhcbihgleddaaGreatDoorM38
/-
  The law's world beside a vault and its disk: what stays where.
-/
namespace Go.Proofs.YtbfhcbihgleddaaGreatDoor
open Go.RowKit

theorem BoxT.apart {t t2 k g : Nat} {w : World} {ca cb : Array Value} (h : BoxT t w k ca) (h2 : BoxT t2 w g cb) (ht : t ≠ t2) : k ≠ g := by
  rintro rfl
  unfold BoxT at h h2
  rw [h] at h2
  simp at h2
  exact ht h2.2
theorem BoxT.turned {t k b g : Nat} {w w' : World} {cs : Array Value} (h : BoxT t w g cs) (ht : Turned k b w w') (h1 : g ≠ k) (h2 : g ≠ b) : BoxT t w' g cs := by
  have := h.lt
  unfold BoxT at *
  rw [ht.block g this h1 h2]; exact h
theorem BoxT.belowT {t g : Nat} {w w' : World} {cs : Array Value} (h : BoxT t w g cs) (hb : Below w.heap.size w w') : BoxT t w' g cs := by
  have := h.lt
  unfold BoxT at *
  rw [hb.block g this]; exact h
section
variable {w0 w w' : World} {V k b n : Nat} {p : Pd} {keep : Int} {vt vw vt' vw' : Value} {th : List SpV} {ws : List ByteArray} {B t : Nat} {cs : Array Value}
/-- Another box stays behind a Put. -/
theorem BoxT.pt (hB : BoxT t w B cs) (h : VAt w0 w V k b n p keep vt vw th ws) (ht : PT V k b vt vw vt' vw' w w') (h1 : t ≠ 78) (h2 : t ≠ 81) (h3 : t ≠ 84) (h4 : t ≠ 9) : BoxT t w' B cs := by
  have hne : w'.heap[B]? = w.heap[B]? := ht.block B hB.lt (hB.apart h.st.d.at_.box h1) (BoxT.notMap hB h.st.d.at_.map) (hB.apart h.box h2)
    (fun e => by obtain ⟨cur, hc⟩ := h.tr.has B e; exact hB.apart hc h3 rfl) (fun e => by obtain ⟨cur, hc⟩ := h.wr.has B e; exact hB.apart hc h4 rfl)
  unfold BoxT at *
  rw [hne]; exact hB
theorem row_box {t2 sz base m : Nat} {v : Value} {xs : List Value} (hr : w.ownsRow base t2 sz v m xs) (hB : BoxT t w B cs) (ht : Turned B B w w') (h1 : t ≠ t2) : w'.ownsRow base t2 sz v m xs :=
  row_back hr fun g e => by
    obtain ⟨cur, hc⟩ := row_has hr g e
    have hne := (hB.apart (show BoxT t2 w g cur from hc) h1).symm
    exact ht.block g (Array.getElem?_eq_some_iff.1 hc).1 hne hne
/-- A vault stays where another box is written. -/
theorem VAt.law (h : VAt w0 w V k b n p keep vt vw th ws) (hB : BoxT t w B cs) (hb : w0.heap.size ≤ B) (ht : Turned B B w w') (h1 : t ≠ 78) (h2 : t ≠ 81) (h3 : t ≠ 84) (h4 : t ≠ 9) (h5 : t ≠ 22) (h6 : t ≠ 5) : VAt w0 w' V k b n p keep vt vw th ws := by
  have hk := (hB.apart h.st.d.at_.box h1).symm
  have hV := (hB.apart h.box h2).symm
  refine ⟨h.st.other' ht hk (BoxT.notMap hB h.st.d.at_.map).symm hb, h.box.turned ht hV hV, h.tr.back (fun g e => ?_), h.wr.back (fun g e => ?_), fun x hx => ⟨row_box (h.oks x hx).p hB ht h4, row_box (h.oks x hx).c hB ht h5, fun c hc => row_box ((h.oks x hx).ks c hc) hB ht h6⟩, h.far, h.lV⟩
  · obtain ⟨cur, hc⟩ := h.tr.has g e
    have hne := (hB.apart hc h3).symm
    exact ht.block g hc.lt hne hne
  · obtain ⟨cur, hc⟩ := h.wr.has g e
    have hne := (hB.apart hc h4).symm
    exact ht.block g hc.lt hne hne
end
/-- The law's world, as it lies: the disk, the vault, keep, the list, the list that may be, the greatest number, cut, dead, fine. -/
def wld (k : Nat) (vv : Value) (kp : Int) (l mb top cut dead fine : Value) : Array Value := #[.pointer (some ⟨k, 0, none⟩), vv, .int .i64 kp, l, mb, top, cut, dead, fine]
theorem wld_cells {w : World} {B k : Nat} {vv l mb top cut dead fine : Value} {kp : Int} (h : BoxT 52 w B (wld k vv kp l mb top cut dead fine)) :
    w.cell? ⟨B, 0, none⟩ = some (.pointer (some ⟨k, 0, none⟩)) ∧ w.cell? ⟨B, 1, none⟩ = some vv ∧ w.cell? ⟨B, 2, none⟩ = some (.int .i64 kp) ∧ w.cell? ⟨B, 3, none⟩ = some l ∧ w.cell? ⟨B, 4, none⟩ = some mb ∧ w.cell? ⟨B, 5, none⟩ = some top ∧ w.cell? ⟨B, 6, none⟩ = some cut ∧ w.cell? ⟨B, 7, none⟩ = some dead ∧ w.cell? ⟨B, 8, none⟩ = some fine := by
  unfold BoxT wld at h
  simp [World.cell?, h]
set_option maxHeartbeats 1000000 in
set_option maxRecDepth 100000 in
theorem open_ok {w0 w : World} {B k b n : Nat} {p : Pd} {vv l mb top dead : Value} {kp : Int} (h : St w0 w k b n p) (hg : Glob w0) (h0 : p.left ≠ 0) (hnm : ∀ s ∈ p.l.map Fi.n, s.length ≤ 100) (hln : p.l.length ≤ 1000)
    (hfo : ∀ x ∈ foundS p ((p.l.map Fi.n).map mkS), x.n < 18446744073709551616 ∧ x.parts.length ≤ 900 ∧ ∀ s ∈ x.parts, s.size ≤ maxLen)
    (hB : BoxT 52 w B (wld k vv kp l mb top (.bool false) dead (.bool true))) (hBl : w0.heap.size ≤ B) :
    Calls Tryz.prog 31 #[.pointer (some ⟨B, 0, none⟩)] w fun e w' => e = .returned (.tuple #[]) ∧ ∃ V vt vw th, BoxT 52 w' B (wld k (.pointer (some ⟨V, 0, none⟩)) kp l mb top (.bool false) dead (.bool true)) ∧ VAt w0 w' V k b n p (max kp 1) vt vw th (wst (fls th) ((p.l.map Fi.n).map mkS)) ∧ (th.map SpV.s).Perm (foundS p ((p.l.map Fi.n).map mkS)) ∧ Rises th ∧ Turned B B w w' := by
  have hop := hide (VOpen_any (h.below ((Below.refl _ _).drew)) hg kp h0 hnm hln hfo)
  obtain ⟨c0, c1, c2, c3, c4, c5, c6, c7, c8⟩ := wld_cells hB
  have hbl := hB.lt
  have HB := hide hB
  clear h h0 hnm hln hfo hB hg
  go_enter Tryz.func31, Tryz.ntmps31
  go_wp2_with fail
  go_region_law (go_simp; go_at_call 12; refine hop.out.mono ?_; rintro e w2 ⟨V, vt, vw, th, rfl, hv, hp, hr, b2⟩; have B2 := hide (((Below.refl w.heap.size w).drew).trans b2); have HV := hide (And.intro hv (And.intro hp hr)); have X2 := hide (HB.out.belowT B2.out); obtain ⟨d0, d1, d2, d3, d4, d5, d6, d7, d8⟩ := wld_cells X2.out; have df := X2.out.free; clear hv hp hr b2)
  all_goals
    go_wp2_with fail
    go_end0
    have hX : BoxT 52 ((w2.setCell ⟨B, 1, none⟩ (.pointer (some ⟨V, 0, none⟩))).setCell ⟨B, 8, none⟩ (.bool true)) B (wld k (.pointer (some ⟨V, 0, none⟩)) kp l mb top (.bool false) dead (.bool true)) := by
      simpa [wld] using (X2.out.set 1 (.pointer (some ⟨V, 0, none⟩))).set 8 (.bool true)
    have hT : Turned B B w2 ((w2.setCell ⟨B, 1, none⟩ (.pointer (some ⟨V, 0, none⟩))).setCell ⟨B, 8, none⟩ (.bool true)) := (Turned.set B B _ 1 _).trans (Turned.set B B _ 8 _)
    exact ⟨rfl, V, vt, vw, th, hX, HV.out.1.law X2.out hBl hT (by decide) (by decide) (by decide) (by decide) (by decide) (by decide), HV.out.2.1, HV.out.2.2, (Turned.below B2.out).trans hT⟩
set_option maxHeartbeats 1000000 in
set_option maxRecDepth 100000 in
theorem begun_any (w : World) (hg : Glob w) (kp : Int) :
    Calls Tryz.prog 17 #[.int .i64 kp] w fun e w' => ∃ B k V b vt vw, e = .returned (.pointer (some ⟨B, 0, none⟩)) ∧ w.heap.size ≤ B ∧ BoxT 52 w' B (wld k (.pointer (some ⟨V, 0, none⟩)) (max kp 1) (.slice none 0 0) (.slice none 0 0) (.int .u64 0) (.bool false) (.bool false) (.bool true)) ∧ VAt w w' V k b 0 ⟨[], 1048576, -1⟩ (max kp 1) vt vw [] [] ∧ Below w.heap.size w w' := by
  have hnew := hide (kNew w w (Below.refl _ _) 1048576 (by decide))
  have hmm : max (max kp 1) 1 = max kp 1 := by omega
  go_enter Tryz.func17, Tryz.ntmps17
  go_wp2_with (first | (go_at_call 11; refine hnew.out.mono ?_; rintro e w2 ⟨k, b, rfl, h2, hk, hb, b2⟩; have H2 := hide h2; have B2 := hide b2; clear h2 b2) | fail)
  have h3 := H2.out.below (w' := w2.alloc (.cells (wld k (.pointer none) (max kp 1) (.slice none 0 0) (.slice none 0 0) (.int .u64 0) (.bool false) (.bool false) (.bool true)) 52)) ((Below.refl _ _).alloc (Nat.le_refl _) _)
  have x3 : BoxT 52 (w2.alloc (.cells (wld k (.pointer none) (max kp 1) (.slice none 0 0) (.slice none 0 0) (.int .u64 0) (.bool false) (.bool false) (.bool true)) 52)) w2.heap.size (wld k (.pointer none) (max kp 1) (.slice none 0 0) (.slice none 0 0) (.int .u64 0) (.bool false) (.bool false) (.bool true)) := BoxT.new _ _ _
  have hop := open_ok h3 hg (by decide) (fun s hs => by cases hs) (by simp) (fun x hx => by cases hx) x3 B2.out.size
  refine hop.mono ?_
  rintro e w4 ⟨rfl, V, vt, vw, th, x4, v4, p4, r4, t4⟩
  have hth : th = [] := by
    have := p4.length_eq
    simp [foundS] at this
    exact this
  subst hth
  rw [hmm] at v4
  have hb4 : Below w.heap.size w w4 := by
    have hs2 := B2.out.size
    have hb3 := B2.out.alloc B2.out.size (.cells (wld k (.pointer none) (max kp 1) (.slice none 0 0) (.slice none 0 0) (.int .u64 0) (.bool false) (.bool false) (.bool true)) 52)
    exact ⟨t4.os.trans hb3.os, t4.tape.trans hb3.tape, t4.output.trans hb3.output, Nat.le_trans hb3.size t4.size, fun i hi => (t4.block i (Nat.lt_of_lt_of_le hi hb3.size) (by omega) (by omega)).trans (hb3.block i hi)⟩
  have HF := hide (And.intro x4 (And.intro v4 hb4))
  have hB2 := B2.out.size
  clear x4 v4 p4 r4 t4 hop h3 x3 hb4
  go_wp2
  go_ret
  exact ⟨_, k, V, b, vt, vw, rfl, hB2, HF.out.1, HF.out.2.1, HF.out.2.2⟩
end Go.Proofs.YtbfhcbihgleddaaGreatDoor

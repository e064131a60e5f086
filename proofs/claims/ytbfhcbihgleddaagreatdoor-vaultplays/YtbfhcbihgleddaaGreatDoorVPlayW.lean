/-
  The law's world in a script without crashes: the vault, its disk with foreign files, the law's list.
-/
import Derived.Test.YtbfhcbihgleddaaGreatDoorVPlayP
import Derived.Test.YtbfhcbihgleddaaGreatDoorVHasW
namespace Go.Proofs.YtbfhcbihgleddaaGreatDoor
open Go.RowKit

theorem Tryz.info59' : (Tryz.prog.info? 59).map (fun i => (i.zero, i.size, i.bytes)) = some (some (.agg #[.int .u64 0, .int .u64 0, .slice none 0 0]), 3, 40) := by kernel_rfl
section
variable {w0 w w' : World} {V k b n : Nat} {p : Pd} {keep : Int} {vt vw vt' vw' v : Value} {th : List SpV} {ws : List ByteArray} {os : List OnV} {base : Nat}
theorem Row.ptO (hr : Row 59 3 OnV.cs base w v os) (h : VAt w0 w V k b n p keep vt vw th ws) (ht : PT V k b vt vw vt' vw' w w') : Row 59 3 OnV.cs base w' v os := by
  refine hr.back fun g e => ?_
  obtain ⟨cur, hc⟩ := hr.has g e
  have h2 := BoxT.pt hc h ht (by decide) (by decide) (by decide) (by decide)
  unfold BoxT at hc h2
  rw [hc, h2]
theorem Row.boxed {t B : Nat} {cs : Array Value} (hr : Row 59 3 OnV.cs base w v os) (hB : BoxT t w B cs) (ht : Turned B B w w') (h1 : t ≠ 59) : Row 59 3 OnV.cs base w' v os := by
  refine hr.back fun g e => ?_
  obtain ⟨cur, hc⟩ := hr.has g e
  have hne := (hB.apart hc h1).symm
  exact ht.block g hc.lt hne hne
theorem Row.kbd (hr : Row 59 3 OnV.cs base w v os) (h : St w0 w k b n p) (ht : Turned k b w w') : Row 59 3 OnV.cs base w' v os := by
  refine hr.back fun g e => ?_
  obtain ⟨cur, hc⟩ := hr.has g e
  exact ht.block g hc.lt (hc.apart h.d.at_.box (by decide)) (BoxT.notMap hc h.d.at_.map)
theorem Row.lsegO (hr : Row 59 3 OnV.cs base w v os) (hl : os.length ≤ 1000000) : LSeg 3 OnV.cs w.heap.size w v os := by
  rcases hr with ⟨rfl, rfl⟩ | ⟨g, off, cap, cur, rfl, h2, h3, h4, h5, h6, h7⟩
  · exact ⟨none, 0, rfl, by simp, .inl rfl⟩
  · refine ⟨_, cap, rfl, by omega, .inr ⟨g, off, rfl, h3.lt, fun i x hx j u hu => ?_⟩⟩
    rw [h3.cellAt, Nat.add_assoc]
    exact h7 _ u (flat_get OnV.cs_len os i j x u hx hu)
/-- What stands behind the first j. -/
theorem Row.dropO {ao : Option Addr} {m cap j : Nat} (hr : Row 59 3 OnV.cs base w (.slice ao m cap) os) (hj : j ≤ os.length) (hl : os.length ≤ 1000000) : ∃ a c, Row 59 3 OnV.cs base w (.slice a (os.drop j).length c) (os.drop j) ∧ (if cap = j then ao else ao.map (fun x => x.add (j * 3))) = a ∧ cap - j = c ∧ os.length - j = (os.drop j).length := by
  have hlen : (os.drop j).length = os.length - j := by simp
  rcases hr with ⟨e, rfl⟩ | ⟨g, off, cap', cur, e, h2, h3, h4, h5, h6, h7⟩
  · cases e
    obtain rfl : j = 0 := by simpa using hj
    exact ⟨none, 0, .inl ⟨rfl, rfl⟩, by simp, rfl, rfl⟩
  · cases e
    refine ⟨_, cap - j, ?_, rfl, rfl, hlen.symm⟩
    have key : ∀ (i : Nat) (u : Value), ((os.drop j).flatMap OnV.cs)[i]? = some u → cur[off + j * 3 + i]? = some u := fun i u hu => by
      rw [Nat.add_assoc]
      refine h7 _ u ?_
      have e : os.flatMap OnV.cs = (os.take j).flatMap OnV.cs ++ (os.drop j).flatMap OnV.cs := by rw [← List.flatMap_append, List.take_append_drop]
      have ht : ((os.take j).flatMap OnV.cs).length = j * 3 := by rw [flat_size OnV.cs_len, List.length_take, Nat.min_eq_left hj]
      rw [e, List.getElem?_append_right (by omega), ht, Nat.add_sub_cancel_left]
      exact hu
    by_cases hc : cap = j
    · rw [if_pos hc]
      have : os.length = j := by omega
      refine .inr ⟨g, off, cap - j, cur, rfl, h2, h3, by rw [hlen]; omega, by omega, by have : (cap - j) * 3 ≤ cap * 3 := Nat.mul_le_mul_right _ (by omega); omega, fun i u hu => ?_⟩
      rw [List.drop_eq_nil_of_le (by omega)] at hu
      simp at hu
    · rw [if_neg hc]
      refine .inr ⟨g, off + j * 3, cap - j, cur, by simp [add_plain2], h2, h3, by rw [hlen]; omega, by omega, ?_, key⟩
      have : (cap - j) * 3 + j * 3 = cap * 3 := by rw [← Nat.add_mul]; congr 1; omega
      omega
end
/-- The law's world. -/
structure LW (w0 w : World) (B k V b nf kp : Nat) (p : Pd) (X : List Fi) (os : List OnV) (vt vw : Value) (th : List SpV) (la : Option Addr) (lc top : Nat) : Prop where
  box : BoxT 52 w B (wld k (.pointer (some ⟨V, 0, none⟩)) (kp : Int) (.slice la os.length lc) (.slice none 0 0) (.int .u64 (top : Int)) (.bool false) (.bool false) (.bool true))
  at_ : VAt w0 w V k b nf p (kp : Int) vt vw th []
  has : Has p (X ++ FX (os.map OnV.sp))
  forn : ∀ f ∈ X, Forn f.n
  is : th.map SpV.s = os.map OnV.sp
  srt : Srt th
  ok : ∀ o ∈ os, OnOk w0 o
  rise : os.Pairwise fun a b => a.n < b.n
  top : ∀ o ∈ os, o.n ≤ top
  row : Row 59 3 OnV.cs w0.heap.size w (.slice la os.length lc) os
  wB : w0.heap.size ≤ B
section
variable {w0 w w' : World} {B k V b nf kp : Nat} {p : Pd} {X : List Fi} {os : List OnV} {vt vw : Value} {th : List SpV} {la : Option Addr} {lc top : Nat}
theorem LW.below (h : LW w0 w B k V b nf kp p X os vt vw th la lc top) (hb : Below w.heap.size w w') : LW w0 w' B k V b nf kp p X os vt vw th la lc top :=
  { h with box := h.box.belowT hb, at_ := h.at_.below hb, row := h.row.below hb }
theorem LW.ones (h : LW w0 w B k V b nf kp p X os vt vw th la lc top) : ∀ y ∈ os.map OnV.sp, One y := fun y hy => by
  obtain ⟨o, ho, rfl⟩ := List.mem_map.1 hy
  exact (h.ok o ho).one
theorem LW.thl (h : LW w0 w B k V b nf kp p X os vt vw th la lc top) : th.length = os.length := by have := congrArg List.length h.is; rwa [List.length_map, List.length_map] at this
theorem LW.hasw (h : LW w0 w B k V b nf kp p X os vt vw th la lc top) (hg : Glob w0) (hl : os.length ≤ 1000) :
    Calls Tryz.prog 45 #[.pointer (some ⟨B, 0, none⟩), .slice la os.length lc] w fun e w' => e = .returned (.bool true) ∧ Below w.heap.size w w' :=
  has_w h.box h.at_ hg h.srt h.is (h.row.lsegO (by omega)) h.ok hl
end
set_option maxHeartbeats 1000000 in
set_option maxRecDepth 100000 in
/-- The greatest ones alone. -/
theorem cap_w {w0 w : World} {B kp : Nat} {c0 c1 c3 c4 c5 c6 c7 c8 : Value} {os : List OnV} {la : Option Addr} {lc : Nat} (hB : BoxT 52 w B #[c0, c1, .int .i64 (kp : Int), c3, c4, c5, c6, c7, c8]) (hr : Row 59 3 OnV.cs w0.heap.size w (.slice la os.length lc) os) (hl : os.length ≤ 1000) (hk : kp ≤ 1000) (hk0 : 1 ≤ kp) :
    Calls Tryz.prog 75 #[.pointer (some ⟨B, 0, none⟩), .slice la os.length lc] w fun e w' => ∃ a c, e = .returned (.slice a (os.drop (os.length - kp)).length c) ∧ Row 59 3 OnV.cs w0.heap.size w (.slice a (os.drop (os.length - kp)).length c) (os.drop (os.length - kp)) ∧ w' = w := by
  have c2 : w.cell? ⟨B, 2, none⟩ = some (.int .i64 (kp : Int)) := by rw [hB.cellAt]; rfl
  obtain ⟨a, c, hrow, ha, hc, hlen⟩ := hr.dropO (j := os.length - kp) (by omega) (by omega)
  have hcap : os.length ≤ lc := by
    rcases hr with ⟨e, h0⟩ | ⟨g, off, cap', cur, e, h2, h3, h4, _⟩
    · rw [h0]; simp
    · cases e; exact h4
  have HR := hide hrow
  obtain ⟨j, hj⟩ : ∃ j, os.length - kp = j := ⟨_, rfl⟩
  rw [hj] at ha hc hlen HR ⊢
  have HAC := hide (And.intro ha (And.intro hc hlen))
  have hjl : j ≤ os.length := by omega
  have hjc : (j : Int) ≤ (lc : Int) := by omega
  have hjo : (j : Int) ≤ (os.length : Int) := by omega
  have hj00 : (0 : Int) ≤ (j : Int) := by omega
  have hl1 : (os.length : Int) ≤ 1000 := by omega
  have hk1 : (kp : Int) ≤ 1000 := by omega
  have hmx3 : max 0 ((os.length : Int) - (kp : Int)) = (j : Int) := by omega
  have hwr : wrap64 ((os.length : Int) - (kp : Int)) = (os.length : Int) - (kp : Int) := by unfold wrap64; omega
  clear hB hr hrow ha hc hlen hj hl hk
  by_cases hcj : lc = j
  · have h := HR.out
    rw [← HAC.out.1, ← HAC.out.2.1, ← HAC.out.2.2, if_pos hcj, hcj, Nat.sub_self] at h
    rw [← HAC.out.2.2]
    have H := hide h
    clear h HR HAC
    go_enter Tryz.func75, Tryz.ntmps75
    go_wp2_with fail
    go_ret
    exact ⟨_, _, rfl, H.out, rfl⟩
  · have h := HR.out
    rw [← HAC.out.1, ← HAC.out.2.1, ← HAC.out.2.2, if_neg hcj] at h
    rw [← HAC.out.2.2]
    have H := hide h
    clear h HR HAC
    go_enter Tryz.func75, Tryz.ntmps75
    go_wp2_with fail
    go_ret
    exact ⟨_, _, rfl, H.out, rfl⟩
end Go.Proofs.YtbfhcbihgleddaaGreatDoor

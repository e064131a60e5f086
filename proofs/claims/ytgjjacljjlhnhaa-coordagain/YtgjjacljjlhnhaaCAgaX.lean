/-
  CoordAgain: its world.
-/
import Derived.Test.YtgjjacljjlhnhaaCAgaP
namespace Go.Proofs.Ytgjjacljjlhnhaa
open Go.RowKit

/-- CoordAgain's world: the coordinator, the tasks' row, the boxes of the place and the bytes, the row of those left. -/
structure AX (w0 w : World) (k : Nat) (P : Sh) (s : Cd) (vt : Value) (T0 : List Int) (A O at_ : Nat) (ov : Value) (vl : Value) (left : List Int) : Prop where
  x : CX w k P s
  b : Below w0.heap.size w0 w
  f : ∀ i, Fp P k i → w0.heap.size ≤ i
  t : OwnL 3 1 i64cs w0.heap.size w vt T0
  a : BoxT 3 w A #[.int .i64 (at_ : Int)]
  o : BoxT 22 w O #[ov]
  nA : ¬ Fp P k A
  nT : vt.ownBlock ≠ some A
  aw : w0.heap.size ≤ A
  l : OwnL 3 1 i64cs w0.heap.size w vl left
  nL : vl.ownBlock ≠ some A
section
variable {w0 w w' : World} {k : Nat} {P : Sh} {s s' : Cd} {vt : Value} {T0 : List Int} {A O at_ : Nat} {ov vl : Value} {left : List Int}
theorem AX.post (h : AX w0 w k P s vt T0 A O at_ ov vl left) (c : CP w w' k P s') : AX w0 w' k P s' vt T0 A O at_ ov vl left :=
  { x := c.x, b := h.b.trans (c.f.below h.b.size (fun i hi => h.f i (.inl hi))), f := h.f, t := CP.row h.x c (by decide) h.t
    a := h.a.back (c.f.block _ h.a.lt (fun hm => h.nA (.inl hm)))
    o := h.o.back (c.f.block _ h.o.lt (fun hm => by
      rcases hm with e | e | e | e
      · exact BoxT.ne h.o h.x.box (by decide) e
      · exact h.x.q1.noBox h.o e
      · exact h.x.q2.noBox h.o e
      · exact h.x.q3.noBox h.o e))
    nA := h.nA, nT := h.nT, aw := h.aw, l := CP.row h.x c (by decide) h.l, nL := h.nL }
theorem AX.below (h : AX w0 w k P s vt T0 A O at_ ov vl left) (hb : Below w.heap.size w w') : AX w0 w' k P s vt T0 A O at_ ov vl left := h.post (h.x.cp.below hb)
theorem AX.setA (h : AX w0 w k P s vt T0 A O at_ ov vl left) (n : Nat) : AX w0 (w.setCell ⟨A, 0, none⟩ (.int .i64 (n : Int))) k P s vt T0 A O n ov vl left := by
  have hb : ∀ i, i ≠ A → (w.setCell ⟨A, 0, none⟩ (.int .i64 (n : Int))).heap[i]? = w.heap[i]? := fun i hi => Below.heap_setCell w ⟨A, 0, none⟩ _ i hi
  exact { x := h.x.back (fun i hi => hb i (fun e => h.nA (e ▸ hi))), b := h.b.grown (grownBy_set _ _ 0 _) h.b.size (fun g e => by cases e; exact h.aw), f := h.f
          t := h.t.back (fun g e => hb g (fun e2 => h.nT (e2 ▸ e))), a := h.a.set 0 _, o := h.o.other 0 _ (BoxT.ne h.a h.o (by decide)).symm
          nA := h.nA, nT := h.nT, aw := h.aw, l := h.l.back (fun g e => hb g (fun e2 => h.nL (e2 ▸ e))), nL := h.nL }
theorem AX.setL (h : AX w0 w k P s vt T0 A O at_ ov vl left) {u : Value} {l2 : List Int} {b : Nat} (ho : OwnL 3 1 i64cs b w u l2) (hb : w0.heap.size ≤ b) (hA : A < b) : AX w0 w k P s vt T0 A O at_ ov u l2 :=
  { h with l := ho.mono hb, nL := fun e => by have := ho.at A e; omega }
theorem AX.tasks (h : AX w0 w k P s vt T0 A O at_ ov vl left) : AX w0 w k P s vt T0 A O at_ ov vt T0 := { h with l := h.t, nL := h.nT }
theorem AX.start {w5 : World} (hk : KX w0 w5 k P s []) (ht : OwnL 3 1 i64cs w0.heap.size w5 vt T0) (ho : BoxT 22 w5 O #[ov]) : AX w0 (w5.alloc (.cells #[.int .i64 0] 3)) k P s vt T0 w5.heap.size O 0 ov vt T0 := by
  have hb := below_box w5 (.cells #[.int .i64 0] 3)
  have hn : vt.ownBlock ≠ some w5.heap.size := fun e => by have := ht.lt _ e; omega
  exact { x := hk.x.below hb, b := hk.b.trans (hb.mono hk.b.size), f := hk.f, t := ht.below hb, a := BoxT.new _ _ _, o := ho.below hb
          nA := fun hm => by have := hk.x.flt _ hm; omega
          nT := hn, aw := hk.b.size, l := ht.below hb, nL := hn }
theorem AX.tick (h : AX w0 w k P s vt T0 A O at_ ov vl left) (ht : s.ti < 999999999 ∧ s.be ≤ s.ti ∧ s.gr < 4611686018427387904 ∧ s.pa ≤ 1048576) {s' : Cd} {o : List Ct} (hs : cTickS s = s') (ho : cTickO s = o) :
    Calls Try.prog 15 #[.pointer (some ⟨k, 0, none⟩)] w fun r w' => ∃ u, r = .returned u ∧ AX w0 w' k P s' vt T0 A O at_ ov vl left ∧ OwnL 32 4 Ct.cs w.heap.size w' u o := by
  subst hs ho
  refine (Tick_any h.x ht.1 ht.2.1 ht.2.2.1 ht.2.2.2).mono ?_
  rintro r w' ⟨u, rfl, o1, c1⟩
  exact ⟨u, rfl, h.post c1, o1⟩
theorem AX.begin (h : AX w0 w k P s vt T0 A O at_ ov vl left) (e f l : Nat) {s' : Cd} {o : List Ct} (hs : cBegS s e f l = s') (ho : cBegO s e f l = o) :
    Calls Try.prog 14 #[.pointer (some ⟨k, 0, none⟩), .int .u64 (e : Int), .int .u64 (f : Int), .int .u64 (l : Int)] w fun r w' => ∃ u, r = .returned u ∧ AX w0 w' k P s' vt T0 A O at_ ov vl left ∧ OwnL 32 4 Ct.cs w.heap.size w' u o := by
  subst hs ho
  refine (Begin_any h.x e f l).mono ?_
  rintro r w' ⟨u, rfl, o1, c1⟩
  exact ⟨u, rfl, h.post c1, o1⟩
theorem AX.take (h : AX w0 w k P s vt T0 A O at_ ov vl left) (m : Ct) (ht : In64 m.task) {s' : Cd} {n : Nat} (hs : cTakeS s m = s') (hn : cTakeN s m = n) :
    Calls Try.prog 16 #[.pointer (some ⟨k, 0, none⟩), .agg #[.int .i64 m.kind, .int .u64 (m.ep : Int), .int .u64 (m.n : Int), .int .i64 m.task]] w fun r w' => r = .returned (.tuple #[.int .u64 (n : Int), .slice none 0 0]) ∧ AX w0 w' k P s' vt T0 A O at_ ov vl left := by
  subst hs hn
  refine (Take_any h.x m ht).mono ?_
  rintro r w' ⟨rfl, c1⟩
  exact ⟨rfl, h.post c1⟩
theorem AX.stored (h : AX w0 w k P s vt T0 A O at_ ov vl left) (n : Nat) (ok : Bool) {s' : Cd} {o : List Ct} (hs : cStoS s n ok = s') (ho : cStoO s n ok = o) :
    Calls Try.prog 18 #[.pointer (some ⟨k, 0, none⟩), .int .u64 (n : Int), .bool ok] w fun r w' => ∃ u, r = .returned u ∧ AX w0 w' k P s' vt T0 A O at_ ov vl left ∧ OwnL 32 4 Ct.cs w.heap.size w' u o := by
  subst hs ho
  refine (Stored_any h.x n ok).mono ?_
  rintro r w' ⟨u, rfl, o1, c1⟩
  exact ⟨u, rfl, h.post c1, o1⟩
theorem AX.told (h : AX w0 w k P s vt T0 A O at_ ov vl left) {b1 : Nat} {u : Value} {o : List Ct} (h1 : OwnL 32 4 Ct.cs b1 w u o) (ho : o.length ≤ 2000000) (hl : left.length ≤ 1000000) (kd : Int) (n : Nat) (heq : kof o kd = tellL kd 3 n left) :
    Calls Try.prog 12 #[u, .int .i64 kd, .int .u64 (n : Int), vl] w fun e w' => e = .returned (.bool true) ∧ AX w0 w' k P s vt T0 A O at_ ov vl left := by
  refine (told_any h1 (h.l.seg i64cs_len (by omega)) (Nat.le_refl _) ho hl kd n heq).mono ?_
  rintro e w' ⟨rfl, b1⟩
  exact ⟨rfl, h.below b1⟩
theorem AX.drp (h : AX w0 w k P s vt T0 A O at_ ov vl left) {q : Nat} (hq : q < left.length) (hl : left.length ≤ 1000) :
    Calls Try.prog 13 #[vl, .int .i64 (q : Int)] w fun e w' => ∃ u, e = .returned u ∧ AX w0 w' k P s vt T0 A O at_ ov u (left.take q ++ left.drop (q + 1)) := by
  refine (drop_any h.l hq hl).mono ?_
  rintro e w' ⟨u, rfl, o1, b1⟩
  exact ⟨u, rfl, (h.below b1).setL o1 h.b.size h.a.lt⟩
theorem AX.nxt {oa : Option Addr} {oc : Nat} {bs : List Nat} (h : AX w0 w k P s vt T0 A O at_ (.slice oa bs.length oc) vl left) (hs : LSeg 1 u8cs w0.heap.size w0 (.slice oa bs.length oc) bs) (hb : ∀ x ∈ bs, x < 256) (hl : bs.length ≤ 60) (hat : at_ ≤ bs.length) (h1 : 1 ≤ left.length) (h2 : left.length ≤ 1000) :
    Calls Try.prog 11 #[vl, .pointer (some ⟨A, 0, none⟩), .pointer (some ⟨O, 0, none⟩)] w fun e w' => ∃ q at' : Nat, q < left.length ∧ at' ≤ bs.length ∧ e = .returned (.int .i64 (q : Int)) ∧ AX w0 w' k P s vt T0 A O at' (.slice oa bs.length oc) vl left := by
  obtain ⟨la, lc, rfl⟩ := h.l.shape
  refine (next_any h.a h.o (hs.below h.b) hb hl hat h.aw la lc h1 h2).mono ?_
  rintro e w' ⟨q, at', hq, ha, rfl, h3⟩
  refine ⟨q, at', hq, ha, rfl, ?_⟩
  rcases h3 with ⟨rfl, rfl⟩ | rfl
  · exact h
  · exact h.setA at'
end
theorem own_cell {w : World} {v : Value} {base : Nat} {l : List Int} (h : OwnL 3 1 i64cs base w v l) {i : Nat} {z : Int} (hi : l[i]? = some z) : ∃ g cap, v = .slice (some ⟨g, 0, none⟩) l.length cap ∧ w.cell? ⟨g, i, none⟩ = some (.int .i64 z) := by
  rcases h.2 with ⟨rfl, h0⟩ | ⟨g, cap, cur, rfl, h2, h3, h4, h5, h6, h7⟩
  · have : l = [] := List.length_eq_zero_iff.1 h0
    subst this
    simp at hi
  · have hb : BoxT 3 w g cur := h3
    refine ⟨g, cap, rfl, ?_⟩
    have h8 := flat_get i64cs_len l i 0 z _ hi (rfl : (i64cs z)[0]? = some (.int .i64 z))
    rw [← h7, List.getElem?_take] at h8
    split at h8
    · rw [hb.cellAt]; simpa using h8
    · cases h8
theorem tell_len2 (kd : Int) (e n : Nat) (l : List Int) : (tellL kd e n l).length = l.length := List.length_map ..
theorem tickO_len3 (s : Cd) : (cTickO s).length ≤ s.T.length + ((cTickS s).S.length + (cTickS s).T.length) := by
  unfold cTickO
  split
  · simp
  · split
    · unfold cRest
      rw [tellL_len]
      have := miss_len s.T s.rd
      omega
    · rw [List.length_append]
      have := cComm_len (cTickS s)
      have := cTrig_len (cTickS s)
      omega

end Go.Proofs.Ytgjjacljjlhnhaa

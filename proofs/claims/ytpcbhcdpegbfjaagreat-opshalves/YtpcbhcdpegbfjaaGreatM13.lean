/-
  Texts in build order: SLay, SPut, SNew, SEnd, SWFire, SFireP, SFire, SHelp, SLawP, OAsd.
-/
import Derived.Test.YtpcbhcdpegbfjaaGreatM12
import Derived.Test.YtpcbhcdpegbfjaaGreatM11
import Derived.Carry
import Derived.Test.YtpcbhcdpegbfjaaGreatM03
/-
  lay: a pane becomes one with what lies at its place; a session's, with all that it overlaps.
-/
namespace Go.Proofs.YtpcbhcdpegbfjaaGreat
open Go.RowKit

def sess (k : Int) : Bool := decide (k = 3)
theorem whl_in {l : List Sp} {f t : Int} {a b : Nat} (hf : In64 f) (ht : In64 t) (hl : ∀ sp ∈ l, In64 sp.f ∧ In64 sp.t) : In64 (whl ⟨f, t⟩ l a b).f ∧ In64 (whl ⟨f, t⟩ l a b).t := by
  have h : ∀ (g : List Sp) (s : Sp), In64 s.f → In64 s.t → (∀ x ∈ g, In64 x.f ∧ In64 x.t) → In64 (g.foldl jsp s).f ∧ In64 (g.foldl jsp s).t := by
    intro g
    induction g with
    | nil => intro s h1 h2 _; exact ⟨h1, h2⟩
    | cons x g ih =>
      intro s h1 h2 h3
      have hx := h3 x (List.mem_cons_self ..)
      exact ih _ (by unfold In64 at *; simp only [jsp]; omega) (by unfold In64 at *; simp only [jsp]; omega) (fun y hy => h3 y (List.mem_cons_of_mem _ hy))
  exact h _ _ hf ht (fun x hx => hl x (List.mem_of_mem_take (List.mem_of_mem_drop hx)))
theorem foldJ_in {ag : Int} (G : List Pn) : ∀ c, In64 c → (∀ x ∈ G, In64 x.a) → In64 (G.foldl (fun a x => jn ag x.a a) c) := by
  induction G with
  | nil => intro c h _; exact h
  | cons x G ih => intro c h h2; exact ih _ (jn_in (h2 x (List.mem_cons_self ..)) h) (fun y hy => h2 y (List.mem_cons_of_mem _ hy))
theorem Inv.plain {kd : Int} {M : List Pn} {R : List SRow} (h : Inv kd M R) (hkd : kd ≠ 3) (M' : List Pn) : Inv kd M' R := by
  have hR := h.none hkd
  subst hR
  exact ⟨fun _ => rfl, fun e => absurd e hkd, fun r hr => (by cases hr), fun r hr => (by cases hr)⟩
structure LI (w wr : World) (s m o : Nat) (kd size slide ag : Int) (fq fq' : Nat → Prop) (N : List Pn) (R' : List SRow) (k f t c : Int) : Prop where
  box : BoxT 117 wr s #[.int .i64 kd, .int .i64 size, .int .i64 slide, .int .i64 ag, .map (some m), .map (some o)]
  mp : MapAt Tryz.prog 150 wr m (N.map pEnt)
  om : OM wr o fq' R'
  ft : FT (FP s m fq) (FP s m fq') w wr
  bp : BoxT 79 wr w.heap.size #[.int .i64 k, .int .i64 f, .int .i64 t, .int .i64 c]
  ns : ¬ fq' s
  nm : ¬ fq' m
  n1 : ¬ fq' w.heap.size
  sl : s < w.heap.size
  ml : m < w.heap.size
section
variable {w wr w' : World} {s m o : Nat} {kd size slide ag : Int} {fq fq' : Nat → Prop} {R' : List SRow} {N : List Pn} {k f t c : Int}
theorem LI.below (h : LI w wr s m o kd size slide ag fq fq' N R' k f t c) (hb : Below wr.heap.size wr w') : LI w w' s m o kd size slide ag fq fq' N R' k f t c :=
  { h with box := BoxT.below (t := 117) h.box hb, mp := h.mp.back (hb.block _ h.mp.lt), om := h.om.below hb, ft := h.ft.trans (FT.of_below hb), bp := BoxT.below (t := 79) h.bp hb }
theorem LI.cells (h : LI w wr s m o kd size slide ag fq fq' N R' k f t c) : wr.cell? ⟨s, 3, none⟩ = some (.int .i64 ag) ∧ wr.cell? ⟨s, 4, none⟩ = some (.map (some m)) ∧ wr.cell? ⟨w.heap.size, 3, none⟩ = some (.int .i64 c) := by
  have h1 := h.box
  have h2 := h.bp
  unfold BoxT at h1 h2
  simp [World.cell?, h1, h2]
theorem LI.set (h : LI w wr s m o kd size slide ag fq fq' N R' k f t c) (hg : wr.grownBy w' (some w.heap.size)) {k' f' t' c' : Int} (hb : BoxT 79 w' w.heap.size #[.int .i64 k', .int .i64 f', .int .i64 t', .int .i64 c']) : LI w w' s m o kd size slide ag fq fq' N R' k' f' t' c' := by
  have ho : ∀ i, i ≠ w.heap.size → i < wr.heap.size → w'.heap[i]? = wr.heap[i]? := fun i hi hl => hg.block i hl (fun e => hi (by cases e; rfl))
  have hsl := h.sl
  have hml := h.ml
  exact { h with box := h.box.grown hg (by omega), mp := h.mp.back (ho m (by omega) h.mp.lt), om := h.om.back (fun i hi => ho i (fun e => h.n1 (e ▸ hi)) (h.om.flt i hi)) hg.size, ft := ⟨hg.os.trans h.ft.os, hg.tape.trans h.ft.tape, hg.output.trans h.ft.output, Nat.le_trans h.ft.size hg.size, fun i hi hn => (ho i (by omega) (Nat.lt_of_lt_of_le hi h.ft.size)).trans (h.ft.block i hi hn), h.ft.sub⟩, bp := hb }
theorem LI.fin (h : LI w wr s m o kd size slide ag fq fq' N R' k f t c) {N' : List Pn} (hm : MapAt Tryz.prog 150 w' m (N'.map pEnt)) (ht : MTurn wr w' m) (hok : ∀ x ∈ N', PnOk x) (hinv : Inv kd N' R') : StAt w' s m o kd size slide ag fq' N' R' ∧ FT (FP s m fq) (FP s m fq') w w' := by
  have hg := ht.grown
  have ho : ∀ i, i ≠ m → w'.heap[i]? = wr.heap[i]? := fun i hi => ht.other hi
  have hsm : s ≠ m := fun e => by
    obtain ⟨es, ck, h1⟩ := h.mp.isMap
    have h2 := h.box
    unfold BoxT at h2
    rw [e, h1] at h2
    cases h2
  refine ⟨⟨?_, hm, h.om.back (fun i hi => ho i (fun e => h.nm (e ▸ hi))) hg.size, hok, h.ns, h.nm, hinv⟩, ⟨hg.os.trans h.ft.os, hg.tape.trans h.ft.tape, hg.output.trans h.ft.output, Nat.le_trans h.ft.size hg.size, fun i hi hn => (ho i (fun e => hn (.inr (.inl e)))).trans (h.ft.block i hi hn), h.ft.sub⟩⟩
  have h1 := ho s hsm
  have h2 := h.box
  unfold BoxT at *
  rw [h1]; exact h2
end
def L4 (s m P : Nat) (k f t xa : Int) (is : Bool) (w' : World) : Prop := w'.cell? ⟨s, 4, none⟩ = some (.map (some m)) ∧ w'.cell? ⟨P, 0, none⟩ = some (.int .i64 k) ∧ w'.cell? ⟨P, 1, none⟩ = some (.int .i64 f) ∧ w'.cell? ⟨P, 2, none⟩ = some (.int .i64 t) ∧ (Instr.lookup 113 (.map (some m)) (.agg #[.int .i64 k, .int .i64 f, .int .i64 t]) true).run Tryz.prog w' = .ok (.tuple #[.int .i64 xa, .bool is]) w'
def L6 (s K : Nat) (ag c : Int) (w' : World) : Prop := w'.cell? ⟨s, 3, none⟩ = some (.int .i64 ag) ∧ w'.cell? ⟨K, 3, none⟩ = some (.int .i64 c)
def L7 (s m P K : Nat) (k f t c : Int) (w' : World) : Prop := w'.cell? ⟨s, 4, none⟩ = some (.map (some m)) ∧ w'.cell? ⟨P, 0, none⟩ = some (.int .i64 k) ∧ w'.cell? ⟨P, 1, none⟩ = some (.int .i64 f) ∧ w'.cell? ⟨P, 2, none⟩ = some (.int .i64 t) ∧ w'.cell? ⟨K, 3, none⟩ = some (.int .i64 c)
theorem Tryz.zeroI (w : World) : (zeroValue 2).run Tryz.prog w = .ok (.int .i64 0) w := by kernel_rfl
def LPost (w : World) (s m o : Nat) (kd size slide ag : Int) (fq : Nat → Prop) (M : List Pn) (p : Pn) (e : Ending) (w' : World) : Prop := e = .returned (.tuple #[]) ∧ ∃ fq' M' R', StAt w' s m o kd size slide ag fq' M' R' ∧ FT (FP s m fq) (FP s m fq') w w' ∧ Comes (sess kd) (jn ag) (p :: M) M'
set_option maxHeartbeats 8000000 in
set_option maxRecDepth 100000 in
theorem lay_plain {w : World} {s m o : Nat} {kd size slide ag : Int} {fq : Nat → Prop} {M : List Pn} {R : List SRow} (h : StAt w s m o kd size slide ag fq M R) (hkd : kd ≠ 3) {k f t c : Int} (hp : PnOk ⟨k, f, t, c⟩) :
    Calls Tryz.prog 99 #[.pointer (some ⟨s, 0, none⟩), .agg #[.int .i64 k, .int .i64 f, .int .i64 t, .int .i64 c]] w (LPost w s m o kd size slide ag fq M ⟨k, f, t, c⟩) := by
  have hb1 := below_box w (.cells #[.int .i64 k, .int .i64 f, .int .i64 t, .int .i64 c] 79)
  have HL : Hid (LI w (w.alloc (.cells #[.int .i64 k, .int .i64 f, .int .i64 t, .int .i64 c] 79)) s m o kd size slide ag fq fq M R k f t c) :=
    ⟨BoxT.below (t := 117) h.box hb1, h.mp.back (hb1.block m h.mp.lt), h.om.below hb1, FT.of_below hb1, BoxT.new _ _ _, h.ns, h.nm, fun e => by have := h.om.flt _ e; omega, h.box.lt, h.mp.lt⟩
  have HKEY := hide (keyPl hp.k hp.f hp.t)
  have HST := hide h
  have HP := hide hp
  have hk1 : (w.alloc (.cells #[.int .i64 k, .int .i64 f, .int .i64 t, .int .i64 c] 79)).cell? ⟨s, 0, none⟩ = some (.int .i64 kd) := by have := HL.out.box.cellAt 0; simpa using this
  have d3 : ¬ kd = 3 := hkd
  obtain ⟨fq', hfq⟩ : ∃ fq', fq' = fq := ⟨_, rfl⟩
  obtain ⟨N, hN⟩ : ∃ N, N = M := ⟨_, rfl⟩
  obtain ⟨R', hR⟩ : ∃ R', R' = R := ⟨_, rfl⟩
  have HEQ := hide (And.intro hfq (And.intro hN hR))
  have hsess : sess kd = false := decide_eq_false hkd
  have HSE := hide hsess
  rw [show LI w (w.alloc (.cells #[.int .i64 k, .int .i64 f, .int .i64 t, .int .i64 c] 79)) s m o kd size slide ag fq fq M R k f t c = LI w (w.alloc (.cells #[.int .i64 k, .int .i64 f, .int .i64 t, .int .i64 c] 79)) s m o kd size slide ag fq fq' N R' k f t c by rw [hfq, hN, hR]] at HL
  clear h hb1 hfq hN hR hsess hp
  by_cases hx : ∃ x ∈ N, x.k = k ∧ x.f = f ∧ x.t = t
  · obtain ⟨x, hxN, x1, x2, x3⟩ := hx
    obtain ⟨u, v, huv⟩ := List.append_of_mem hxN
    obtain ⟨xk, xf, xt, xa⟩ := x
    simp only at x1 x2 x3
    have e1 := x1.symm
    have e2 := x2.symm
    have e3 := x3.symm
    clear x1 x2 x3
    subst e1 e2 e3
    obtain ⟨N0, hN0⟩ : ∃ N0, N0 = u ++ v := ⟨_, rfl⟩
    have HN0 : Hid (N.Perm (⟨k, f, t, xa⟩ :: N0)) := (show List.Perm _ _ by rw [huv, hN0]; exact List.perm_middle)
    clear huv hN0 hxN
    go_enter Tryz.func99, Tryz.ntmps99
    obtain ⟨b0, b1, b2, b3⟩ := HL.out.bp.cells4
    have HPO := hide (fun w' => placeOf_any w' ⟨k, f, t, c⟩)
    unfold Pn.val plV at HPO
    simp only at HPO
    go_upto_region 4 with (first | (go_at_call 104; refine (HPO.out _).mono ?_; rintro e w3 ⟨rfl, b3'⟩; have H3 := hide (HL.out.below b3'); clear b3') | fail)
    obtain ⟨W4, hW4⟩ : ∃ W4, W4 = w3.alloc (.cells #[.int .i64 k, .int .i64 f, .int .i64 t] 150) := ⟨_, rfl⟩
    rw [← hW4]
    have H4 : Hid (LI w W4 s m o kd size slide ag fq fq' N R' k f t c) := (show LI _ _ _ _ _ _ _ _ _ _ _ _ _ _ _ _ _ by rw [hW4]; exact H3.out.below (below_box w3 _))
    have P4 : Hid (BoxT 150 W4 w3.heap.size #[.int .i64 k, .int .i64 f, .int .i64 t]) := (show BoxT _ _ _ _ by rw [hW4]; exact BoxT.new _ _ _)
    clear hW4 b0 b1 b2 b3 HPO
    have HK4 : Hid (∀ w', Below W4.heap.size W4 w' → L4 s m w3.heap.size k f t xa true w') := fun w' hb => by
      have h1 := H4.out.below hb
      obtain ⟨p0, p1, p2⟩ := (BoxT.below (t := 150) P4.out hb).cells3
      obtain ⟨lk, hlk⟩ := HKEY.out
      exact ⟨h1.cells.2.1, p0, p1, p2, h1.mp.look_hit Tryz.lawPl Tryz.underlying113 hlk (R := N0.map pEnt) (by have := HN0.out.map pEnt; rwa [List.map_cons] at this) true⟩
    refine wp_region_M (S := fun w' => L4 s m w3.heap.size k f t xa true w') (late := []) (by kernel_rfl) (HK4.out _ (Below.refl _ _).drew) (fun hH => ?_)
    (try simp only [List.size_toArray, List.length_cons, List.length_nil, Nat.zero_add, Nat.reduceAdd, Array.replicate, List.replicate])
    refine tkM 0 ?_ ?_ hH ?_
    rotate_left
    · (intro w' hSw; unfold L4 at hSw; go_simp; try (with_reducible rfl))
    (try simp only [Act.put, List.setIfInBounds_toArray, List.set_cons_zero, List.set_cons_succ])
    refine tkM 1 ?_ ?_ hH ?_
    rotate_left
    · (intro w' hSw; unfold L4 at hSw; go_simp; try (with_reducible rfl))
    (try simp only [Act.put, List.setIfInBounds_toArray, List.set_cons_zero, List.set_cons_succ])
    refine tkM 2 ?_ ?_ hH ?_
    rotate_left
    · (intro w' hSw; unfold L4 at hSw; go_simp; try (with_reducible rfl))
    (try simp only [Act.put, List.setIfInBounds_toArray, List.set_cons_zero, List.set_cons_succ])
    refine tkM 3 ?_ ?_ hH ?_
    rotate_left
    · (intro w' hSw; unfold L4 at hSw; go_simp; try (with_reducible rfl))
    (try simp only [Act.put, List.setIfInBounds_toArray, List.set_cons_zero, List.set_cons_succ])
    refine tkM 4 ?_ ?_ hH ?_
    rotate_left
    · (intro w' hSw; unfold L4 at hSw; go_simp; try (with_reducible rfl))
    (try simp only [Act.put, List.setIfInBounds_toArray, List.set_cons_zero, List.set_cons_succ])
    refine tkM 5 ?_ ?_ hH ?_
    rotate_left
    · (intro w' hSw; unfold L4 at hSw; go_simp; try (with_reducible rfl))
    (try simp only [Act.put, List.setIfInBounds_toArray, List.set_cons_zero, List.set_cons_succ])
    refine tkM 6 ?_ ?_ hH ?_
    rotate_left
    · (intro w' hSw; unfold L4 at hSw; go_simp; try (with_reducible rfl))
    (try simp only [Act.put, List.setIfInBounds_toArray, List.set_cons_zero, List.set_cons_succ])
    refine tkM 7 ?_ ?_ hH ?_
    rotate_left
    · (intro w' hSw; unfold L4 at hSw; go_simp; try (with_reducible rfl))
    (try simp only [Act.put, List.setIfInBounds_toArray, List.set_cons_zero, List.set_cons_succ])
    refine tkM 8 ?_ ?_ hH ?_
    rotate_left
    · (intro w' hSw; unfold L4 at hSw; go_simp; try (with_reducible rfl))
    (try simp only [Act.put, List.setIfInBounds_toArray, List.set_cons_zero, List.set_cons_succ])
    refine tkM 9 ?_ ?_ hH ?_
    rotate_left
    · (intro w' hSw; unfold L4 at hSw; go_simp; try (with_reducible rfl))
    (try simp only [Act.put, List.setIfInBounds_toArray, List.set_cons_zero, List.set_cons_succ])
    refine tkM 10 ?_ ?_ hH ?_
    rotate_left
    · (intro w' hSw; unfold L4 at hSw; go_simp; try (with_reducible rfl))
    (try simp only [Act.put, List.setIfInBounds_toArray, List.set_cons_zero, List.set_cons_succ])
    refine wpAnyM_done (by kernel_rfl) ?_ _
    go_upto_region 6 with fail
    have HMG : Hid (∀ w', Below W4.heap.size W4 w' → Calls Tryz.prog 114 #[.int .i64 ag, .int .i64 xa, .int .i64 c] w' fun e w'' => e = .returned (.int .i64 (jn ag xa c)) ∧ Below W4.heap.size W4 w'') := fun w' hb => (Merge_any w' ag xa c).mono (by rintro e w'' ⟨rfl, h2⟩; exact ⟨rfl, hb.trans (h2.mono hb.size)⟩)
    generalize hJ : jn ag xa c = J at *
    have HJ := hide hJ
    clear hJ
    have HK6 : Hid (∀ w', Below W4.heap.size W4 w' → L6 s w.heap.size ag c w') := fun w' hb => ⟨(H4.out.below hb).cells.1, (H4.out.below hb).cells.2.2⟩
    refine wp_region_M (S := fun w' => L6 s w.heap.size ag c w') (late := [9]) (by kernel_rfl) (HK6.out _ ((Below.refl _ _).drew.drew)) (fun hH => ?_)
    (try simp only [List.size_toArray, List.length_cons, List.length_nil, Nat.zero_add, Nat.reduceAdd, Array.replicate, List.replicate])
    refine tkM 0 ?_ ?_ hH ?_
    rotate_left
    · (intro w' hSw; unfold L6 at hSw; go_simp; try (with_reducible rfl))
    (try simp only [Act.put, List.setIfInBounds_toArray, List.set_cons_zero, List.set_cons_succ])
    refine tkM 1 ?_ ?_ hH ?_
    rotate_left
    · (intro w' hSw; unfold L6 at hSw; go_simp; try (with_reducible rfl))
    (try simp only [Act.put, List.setIfInBounds_toArray, List.set_cons_zero, List.set_cons_succ])
    refine tkM 2 ?_ ?_ hH ?_
    rotate_left
    · (intro w' hSw; unfold L6 at hSw; go_simp; try (with_reducible rfl))
    (try simp only [Act.put, List.setIfInBounds_toArray, List.set_cons_zero, List.set_cons_succ])
    refine tkM 3 ?_ ?_ hH ?_
    rotate_left
    · (intro w' hSw; unfold L6 at hSw; go_simp; try (with_reducible rfl))
    (try simp only [Act.put, List.setIfInBounds_toArray, List.set_cons_zero, List.set_cons_succ])
    refine tkM 4 ?_ ?_ hH ?_
    rotate_left
    · (intro w' hSw; unfold L6 at hSw; go_simp; try (with_reducible rfl))
    (try simp only [Act.put, List.setIfInBounds_toArray, List.set_cons_zero, List.set_cons_succ])
    refine tkM 5 ?_ ?_ hH ?_
    rotate_left
    · (intro w' hSw; unfold L6 at hSw; go_simp; try (with_reducible rfl))
    (try simp only [Act.put, List.setIfInBounds_toArray, List.set_cons_zero, List.set_cons_succ])
    refine tkM 6 ?_ ?_ hH ?_
    rotate_left
    · (intro w' hSw; unfold L6 at hSw; go_simp; try (with_reducible rfl))
    (try simp only [Act.put, List.setIfInBounds_toArray, List.set_cons_zero, List.set_cons_succ])
    refine wpAnyM_one (i := 7) (o := ⟨_, _, _, _, _, _⟩) (by kernel_rfl) rfl (fun K hK => ?_)
    go_simp
    go_at_call 114
    refine (HMG.out _ ((Below.refl _ _).drew.drew)).mono ?_
    rintro e w5 ⟨rfl, b5⟩
    have B5 := hide b5
    refine hK.out _ _ (HK6.out _ b5) (fun hH => ?_)
    clear hK K b5
    (try simp only [List.setIfInBounds_toArray, List.set_cons_zero, List.set_cons_succ])
    refine tkM 8 ?_ ?_ hH ?_
    rotate_left
    · (intro w' hSw; unfold L6 at hSw; go_simp; try (with_reducible rfl))
    (try simp only [Act.put, List.setIfInBounds_toArray, List.set_cons_zero, List.set_cons_succ])
    have H5 := hide (H4.out.below B5.out)
    have hf5 := fun j => H5.out.bp.free j
    have hc5 : w5.cell? ⟨w.heap.size, 3, none⟩ = some (.int .i64 c) := H5.out.cells.2.2
    refine wpAnyM_last (i := 9) (o := ⟨_, _, _, _, _, _⟩) (by kernel_rfl) (by kernel_rfl) rfl (fun K hK => ?_)
    go_simp
    refine hK.out _ _ ?_
    clear hK K
    (try simp only [List.setIfInBounds_toArray, List.set_cons_zero, List.set_cons_succ])
    refine wpAnyM_done (by kernel_rfl) ?_ _
    have H6 := hide (H5.out.set (grownBy_set w5 w.heap.size 3 (.int .i64 J)) (k' := k) (f' := f) (t' := t) (c' := J) (by have := H5.out.bp.set 3 (.int .i64 J); simpa using this))
    have P6 : Hid (BoxT 150 (w5.setCell ⟨w.heap.size, 3, none⟩ (.int .i64 J)) w3.heap.size #[.int .i64 k, .int .i64 f, .int .i64 t]) := (BoxT.below (t := 150) P4.out B5.out).grown (grownBy_set _ _ _ _) (by have := H3.out.bp.lt; omega)
    clear hf5 hc5 hH
    generalize hw6 : w5.setCell ⟨w.heap.size, 3, none⟩ (.int .i64 J) = w6 at *
    clear hw6
    go_upto_region 7 with fail
    have H7 := hide (H6.out.below ((Below.refl _ _).drew))
    obtain ⟨lk, hlk⟩ := HKEY.out
    obtain ⟨w7, hrun7, hm7, ht7⟩ := H7.out.mp.store_old (v := .int .i64 J) Tryz.lawPl Tryz.underlying113 hlk (R := N0.map pEnt) (by have := HN0.out.map pEnt; rwa [List.map_cons] at this)
    obtain ⟨_, e4, e3⟩ := H6.out.cells
    obtain ⟨p0, p1, p2⟩ := P6.out.cells3
    have hL7 : L7 s m w3.heap.size w.heap.size k f t J w7 := by
      have hne : ∀ {ty : TypeId} {i : Nat} {cs : Array Value}, BoxT ty w6.drew i cs → BoxT ty w7 i cs := fun {ty i cs} hb => by
        have h1 : i ≠ m := fun e => by
          obtain ⟨es, ck, h1⟩ := H7.out.mp.isMap
          unfold BoxT at hb
          rw [e, h1] at hb
          cases hb
        have h2 := ht7.other h1
        unfold BoxT at *
        rw [h2]; exact hb
      have q1 := hne H7.out.box
      have q2 := hne H7.out.bp
      have q3 := hne (ty := 150) P6.out
      obtain ⟨r0, r1, r2⟩ := q3.cells3
      obtain ⟨_, _, _, r3⟩ := q2.cells4
      exact ⟨by rw [q1.cellAt]; rfl, r0, r1, r2, r3⟩
    have HL7 := hide hL7
    have HM7 := hide (And.intro hm7 ht7)
    clear hL7 hm7 ht7
    refine wp_region_M (S := fun w' => L7 s m w3.heap.size w.heap.size k f t J w') (late := []) (by kernel_rfl) ⟨e4, p0, p1, p2, e3⟩ (fun hH => ?_)
    (try simp only [List.size_toArray, List.length_cons, List.length_nil, Nat.zero_add, Nat.reduceAdd, Array.replicate, List.replicate])
    refine tkM 0 ?_ ?_ hH ?_
    rotate_left
    · (intro w' hSw; unfold L7 at hSw; go_simp; try (with_reducible rfl))
    (try simp only [Act.put, List.setIfInBounds_toArray, List.set_cons_zero, List.set_cons_succ])
    refine tkM 1 ?_ ?_ hH ?_
    rotate_left
    · (intro w' hSw; unfold L7 at hSw; go_simp; try (with_reducible rfl))
    (try simp only [Act.put, List.setIfInBounds_toArray, List.set_cons_zero, List.set_cons_succ])
    refine tkM 2 ?_ ?_ hH ?_
    rotate_left
    · (intro w' hSw; unfold L7 at hSw; go_simp; try (with_reducible rfl))
    (try simp only [Act.put, List.setIfInBounds_toArray, List.set_cons_zero, List.set_cons_succ])
    refine tkM 3 ?_ ?_ hH ?_
    rotate_left
    · (intro w' hSw; unfold L7 at hSw; go_simp; try (with_reducible rfl))
    (try simp only [Act.put, List.setIfInBounds_toArray, List.set_cons_zero, List.set_cons_succ])
    refine tkM 4 ?_ ?_ hH ?_
    rotate_left
    · (intro w' hSw; unfold L7 at hSw; go_simp; try (with_reducible rfl))
    (try simp only [Act.put, List.setIfInBounds_toArray, List.set_cons_zero, List.set_cons_succ])
    refine tkM 5 ?_ ?_ hH ?_
    rotate_left
    · (intro w' hSw; unfold L7 at hSw; go_simp; try (with_reducible rfl))
    (try simp only [Act.put, List.setIfInBounds_toArray, List.set_cons_zero, List.set_cons_succ])
    refine tkM 6 ?_ ?_ hH ?_
    rotate_left
    · (intro w' hSw; unfold L7 at hSw; go_simp; try (with_reducible rfl))
    (try simp only [Act.put, List.setIfInBounds_toArray, List.set_cons_zero, List.set_cons_succ])
    refine wpAnyM_one (i := 7) (o := ⟨_, _, _, _, _, _⟩) (by kernel_rfl) rfl (fun K hK => ?_)
    refine step_put_run rfl _ _ _ 113 rfl _ _ _ rfl rfl rfl hrun7 ?_
    refine hK.out _ _ HL7.out (fun hH => ?_)
    clear hK K
    (try simp only [List.setIfInBounds_toArray, List.set_cons_zero, List.set_cons_succ])
    refine wpAnyM_done (by kernel_rfl) ?_ _
    go_wp2_with fail
    go_end0
    obtain ⟨e1, e2, e3⟩ := HEQ.out
    subst e1 e2 e3
    have hnew : (⟨k, f, t, J⟩ :: N0 : List Pn).map pEnt = (plV ⟨k, f, t, c⟩, .int .i64 J) :: N0.map pEnt := rfl
    have hxok := HST.out.ok ⟨k, f, t, xa⟩ (HN0.out.mem_iff.2 (List.mem_cons_self ..))
    obtain ⟨q1, q2⟩ := H7.out.fin (N' := ⟨k, f, t, J⟩ :: N0) (by rw [hnew]; exact HM7.out.1) HM7.out.2 (fun y hy => by
      rcases List.mem_cons.1 hy with rfl | hy
      · exact ⟨HP.out.k, HP.out.f, HP.out.t, by rw [← HJ.out]; exact jn_in hxok.a HP.out.a⟩
      · exact HST.out.ok y (HN0.out.mem_iff.2 (List.mem_cons_of_mem _ hy))) (HST.out.inv.plain hkd _)
    refine ⟨rfl, _, _, _, q1, q2, ?_⟩
    rw [HSE.out]
    have hpl := (places_of HST.out.mp).perm HN0.out
    have hm : mt false ⟨k, f, t, c⟩ ⟨k, f, t, xa⟩ := ⟨rfl, .inr ⟨rfl, rfl, rfl⟩⟩
    have hj : jp (jn ag) ⟨k, f, t, c⟩ ⟨k, f, t, xa⟩ = ⟨k, f, t, J⟩ := by
      rw [← HJ.out]
      refine Pn.same rfl ?_ ?_ ?_ <;> simp only [jp]
      · omega
      · omega
      · exact jn_comm _ _ _
    have hr := Reds.pair (J := jn ag) N0 hm
    rw [hj] at hr
    refine ⟨hr.perm (.cons _ HN0.out.symm) (.refl _), ?_⟩
    have hpa := List.pairwise_cons.1 hpl
    refine List.pairwise_cons.2 ⟨fun y hy hmy => ?_, hpa.2.imp (fun hne hmy => hne ?_)⟩
    · obtain ⟨m1, ⟨m2, _⟩ | ⟨_, m2, m3⟩⟩ := hmy
      · cases m2
      · exact hpa.1 y hy ⟨m1, m2, m3⟩
    · obtain ⟨m1, ⟨m2, _⟩ | ⟨_, m2, m3⟩⟩ := hmy
      · cases m2
      · exact ⟨m1, m2, m3⟩
  · have HNO : Hid (∀ p ∈ N.map pEnt, p.1 ≠ (.agg #[.int .i64 k, .int .i64 f, .int .i64 t] : Value)) := fun p hp e => by
      obtain ⟨y, hy, rfl⟩ := List.mem_map.1 hp
      simp [pEnt, plV] at e
      exact hx ⟨y, hy, e⟩
    have HX := hide hx
    clear hx
    go_enter Tryz.func99, Tryz.ntmps99
    obtain ⟨b0, b1, b2, b3⟩ := HL.out.bp.cells4
    have HPO := hide (fun w' => placeOf_any w' ⟨k, f, t, c⟩)
    unfold Pn.val plV at HPO
    simp only at HPO
    go_upto_region 4 with (first | (go_at_call 104; refine (HPO.out _).mono ?_; rintro e w3 ⟨rfl, b3'⟩; have H3 := hide (HL.out.below b3'); clear b3') | fail)
    obtain ⟨W4, hW4⟩ : ∃ W4, W4 = w3.alloc (.cells #[.int .i64 k, .int .i64 f, .int .i64 t] 150) := ⟨_, rfl⟩
    rw [← hW4]
    have H4 : Hid (LI w W4 s m o kd size slide ag fq fq' N R' k f t c) := (show LI _ _ _ _ _ _ _ _ _ _ _ _ _ _ _ _ _ by rw [hW4]; exact H3.out.below (below_box w3 _))
    have P4 : Hid (BoxT 150 W4 w3.heap.size #[.int .i64 k, .int .i64 f, .int .i64 t]) := (show BoxT _ _ _ _ by rw [hW4]; exact BoxT.new _ _ _)
    clear hW4 b0 b1 b2 b3 HPO
    have HK4 : Hid (∀ w', Below W4.heap.size W4 w' → L4 s m w3.heap.size k f t 0 false w') := fun w' hb => by
      have h1 := H4.out.below hb
      obtain ⟨p0, p1, p2⟩ := (BoxT.below (t := 150) P4.out hb).cells3
      obtain ⟨lk, hlk⟩ := HKEY.out
      exact ⟨h1.cells.2.1, p0, p1, p2, h1.mp.look_miss Tryz.lawPl Tryz.underlying113 (Tryz.zeroI w') hlk HNO.out true⟩
    refine wp_region_M (S := fun w' => L4 s m w3.heap.size k f t 0 false w') (late := []) (by kernel_rfl) (HK4.out _ (Below.refl _ _).drew) (fun hH => ?_)
    (try simp only [List.size_toArray, List.length_cons, List.length_nil, Nat.zero_add, Nat.reduceAdd, Array.replicate, List.replicate])
    refine tkM 0 ?_ ?_ hH ?_
    rotate_left
    · (intro w' hSw; unfold L4 at hSw; go_simp; try (with_reducible rfl))
    (try simp only [Act.put, List.setIfInBounds_toArray, List.set_cons_zero, List.set_cons_succ])
    refine tkM 1 ?_ ?_ hH ?_
    rotate_left
    · (intro w' hSw; unfold L4 at hSw; go_simp; try (with_reducible rfl))
    (try simp only [Act.put, List.setIfInBounds_toArray, List.set_cons_zero, List.set_cons_succ])
    refine tkM 2 ?_ ?_ hH ?_
    rotate_left
    · (intro w' hSw; unfold L4 at hSw; go_simp; try (with_reducible rfl))
    (try simp only [Act.put, List.setIfInBounds_toArray, List.set_cons_zero, List.set_cons_succ])
    refine tkM 3 ?_ ?_ hH ?_
    rotate_left
    · (intro w' hSw; unfold L4 at hSw; go_simp; try (with_reducible rfl))
    (try simp only [Act.put, List.setIfInBounds_toArray, List.set_cons_zero, List.set_cons_succ])
    refine tkM 4 ?_ ?_ hH ?_
    rotate_left
    · (intro w' hSw; unfold L4 at hSw; go_simp; try (with_reducible rfl))
    (try simp only [Act.put, List.setIfInBounds_toArray, List.set_cons_zero, List.set_cons_succ])
    refine tkM 5 ?_ ?_ hH ?_
    rotate_left
    · (intro w' hSw; unfold L4 at hSw; go_simp; try (with_reducible rfl))
    (try simp only [Act.put, List.setIfInBounds_toArray, List.set_cons_zero, List.set_cons_succ])
    refine tkM 6 ?_ ?_ hH ?_
    rotate_left
    · (intro w' hSw; unfold L4 at hSw; go_simp; try (with_reducible rfl))
    (try simp only [Act.put, List.setIfInBounds_toArray, List.set_cons_zero, List.set_cons_succ])
    refine tkM 7 ?_ ?_ hH ?_
    rotate_left
    · (intro w' hSw; unfold L4 at hSw; go_simp; try (with_reducible rfl))
    (try simp only [Act.put, List.setIfInBounds_toArray, List.set_cons_zero, List.set_cons_succ])
    refine tkM 8 ?_ ?_ hH ?_
    rotate_left
    · (intro w' hSw; unfold L4 at hSw; go_simp; try (with_reducible rfl))
    (try simp only [Act.put, List.setIfInBounds_toArray, List.set_cons_zero, List.set_cons_succ])
    refine tkM 9 ?_ ?_ hH ?_
    rotate_left
    · (intro w' hSw; unfold L4 at hSw; go_simp; try (with_reducible rfl))
    (try simp only [Act.put, List.setIfInBounds_toArray, List.set_cons_zero, List.set_cons_succ])
    refine tkM 10 ?_ ?_ hH ?_
    rotate_left
    · (intro w' hSw; unfold L4 at hSw; go_simp; try (with_reducible rfl))
    (try simp only [Act.put, List.setIfInBounds_toArray, List.set_cons_zero, List.set_cons_succ])
    refine wpAnyM_done (by kernel_rfl) ?_ _
    have H6 := hide (H4.out.below ((Below.refl _ _).drew))
    have P6 : Hid (BoxT 150 W4.drew w3.heap.size #[.int .i64 k, .int .i64 f, .int .i64 t]) := P4.out
    clear hH
    generalize hw6 : W4.drew = w6 at *
    clear hw6
    go_upto_region 7 with fail
    have H7 := hide (H6.out.below ((Below.refl _ _).drew))
    obtain ⟨lk, hlk⟩ := HKEY.out
    obtain ⟨w7, hrun7, hm7, ht7⟩ := H7.out.mp.store_new (v := .int .i64 c) Tryz.lawPl Tryz.underlying113 hlk HNO.out
    obtain ⟨_, e4, e3⟩ := H6.out.cells
    obtain ⟨p0, p1, p2⟩ := P6.out.cells3
    have hL7 : L7 s m w3.heap.size w.heap.size k f t c w7 := by
      have hne : ∀ {ty : TypeId} {i : Nat} {cs : Array Value}, BoxT ty w6.drew i cs → BoxT ty w7 i cs := fun {ty i cs} hb => by
        have h1 : i ≠ m := fun e => by
          obtain ⟨es, ck, h1⟩ := H7.out.mp.isMap
          unfold BoxT at hb
          rw [e, h1] at hb
          cases hb
        have h2 := ht7.other h1
        unfold BoxT at *
        rw [h2]; exact hb
      have q1 := hne H7.out.box
      have q2 := hne H7.out.bp
      have q3 := hne (ty := 150) P6.out
      obtain ⟨r0, r1, r2⟩ := q3.cells3
      obtain ⟨_, _, _, r3⟩ := q2.cells4
      exact ⟨by rw [q1.cellAt]; rfl, r0, r1, r2, r3⟩
    have HL7 := hide hL7
    have HM7 := hide (And.intro hm7 ht7)
    clear hL7 hm7 ht7
    refine wp_region_M (S := fun w' => L7 s m w3.heap.size w.heap.size k f t c w') (late := []) (by kernel_rfl) ⟨e4, p0, p1, p2, e3⟩ (fun hH => ?_)
    (try simp only [List.size_toArray, List.length_cons, List.length_nil, Nat.zero_add, Nat.reduceAdd, Array.replicate, List.replicate])
    refine tkM 0 ?_ ?_ hH ?_
    rotate_left
    · (intro w' hSw; unfold L7 at hSw; go_simp; try (with_reducible rfl))
    (try simp only [Act.put, List.setIfInBounds_toArray, List.set_cons_zero, List.set_cons_succ])
    refine tkM 1 ?_ ?_ hH ?_
    rotate_left
    · (intro w' hSw; unfold L7 at hSw; go_simp; try (with_reducible rfl))
    (try simp only [Act.put, List.setIfInBounds_toArray, List.set_cons_zero, List.set_cons_succ])
    refine tkM 2 ?_ ?_ hH ?_
    rotate_left
    · (intro w' hSw; unfold L7 at hSw; go_simp; try (with_reducible rfl))
    (try simp only [Act.put, List.setIfInBounds_toArray, List.set_cons_zero, List.set_cons_succ])
    refine tkM 3 ?_ ?_ hH ?_
    rotate_left
    · (intro w' hSw; unfold L7 at hSw; go_simp; try (with_reducible rfl))
    (try simp only [Act.put, List.setIfInBounds_toArray, List.set_cons_zero, List.set_cons_succ])
    refine tkM 4 ?_ ?_ hH ?_
    rotate_left
    · (intro w' hSw; unfold L7 at hSw; go_simp; try (with_reducible rfl))
    (try simp only [Act.put, List.setIfInBounds_toArray, List.set_cons_zero, List.set_cons_succ])
    refine tkM 5 ?_ ?_ hH ?_
    rotate_left
    · (intro w' hSw; unfold L7 at hSw; go_simp; try (with_reducible rfl))
    (try simp only [Act.put, List.setIfInBounds_toArray, List.set_cons_zero, List.set_cons_succ])
    refine tkM 6 ?_ ?_ hH ?_
    rotate_left
    · (intro w' hSw; unfold L7 at hSw; go_simp; try (with_reducible rfl))
    (try simp only [Act.put, List.setIfInBounds_toArray, List.set_cons_zero, List.set_cons_succ])
    refine wpAnyM_one (i := 7) (o := ⟨_, _, _, _, _, _⟩) (by kernel_rfl) rfl (fun K hK => ?_)
    refine step_put_run rfl _ _ _ 113 rfl _ _ _ rfl rfl rfl hrun7 ?_
    refine hK.out _ _ HL7.out (fun hH => ?_)
    clear hK K
    (try simp only [List.setIfInBounds_toArray, List.set_cons_zero, List.set_cons_succ])
    refine wpAnyM_done (by kernel_rfl) ?_ _
    go_wp2_with fail
    go_end0
    obtain ⟨e1, e2, e3⟩ := HEQ.out
    subst e1 e2 e3
    have hnew : (⟨k, f, t, c⟩ :: N : List Pn).map pEnt = (plV ⟨k, f, t, c⟩, .int .i64 c) :: N.map pEnt := rfl
    obtain ⟨q1, q2⟩ := H7.out.fin (N' := ⟨k, f, t, c⟩ :: N) (by rw [hnew]; exact HM7.out.1) HM7.out.2 (fun y hy => by
      rcases List.mem_cons.1 hy with rfl | hy
      · exact HP.out
      · exact HST.out.ok y hy) (HST.out.inv.plain hkd _)
    refine ⟨rfl, _, _, _, q1, q2, ?_⟩
    rw [HSE.out]
    refine Comes.refl (List.pairwise_cons.2 ⟨fun y hy hmy => ?_, (places_of HST.out.mp).imp (fun hne hmy => hne ?_)⟩)
    · obtain ⟨m1, ⟨m2, _⟩ | ⟨_, m2, m3⟩⟩ := hmy
      · cases m2
      · exact HX.out ⟨y, hy, m1.symm, m2.symm, m3.symm⟩
    · obtain ⟨m1, ⟨m2, _⟩ | ⟨_, m2, m3⟩⟩ := hmy
      · cases m2
      · exact ⟨m1, m2, m3⟩
theorem LI.start {w w2 : World} {s m o : Nat} {size slide ag : Int} {fq fq' : Nat → Prop} {M N : List Pn} {R R' : List SRow} {k f t c : Int} (h : StAt w s m o 3 size slide ag fq M R) (hbox : BoxT 117 w2 s #[.int .i64 3, .int .i64 size, .int .i64 slide, .int .i64 ag, .map (some m), .map (some o)]) (hmp : MapAt Tryz.prog 150 w2 m (N.map pEnt)) (hom : OM w2 o fq' R')
    (hft : FT (FP s m fq) (FP s m fq') (w.alloc (.cells #[.int .i64 k, .int .i64 f, .int .i64 t, .int .i64 c] 79)) w2) (hns : ¬ fq' s) (hnm : ¬ fq' m) :
    LI w w2 s m o 3 size slide ag fq fq' N R' k f t c := by
  have hsl := h.box.lt
  have hml := h.mp.lt
  have hW : (w.alloc (.cells #[.int .i64 k, .int .i64 f, .int .i64 t, .int .i64 c] 79)).heap.size = w.heap.size + 1 := by simp
  have nfp : ¬ FP s m fq w.heap.size := fun e => by
    rcases e with e | e | e
    · omega
    · omega
    · have := h.om.flt _ e; omega
  have n1 : ¬ fq' w.heap.size := fun e => by
    rcases hft.sub _ (.inr (.inr e)) with e | e
    · exact nfp e
    · omega
  have hb2 : BoxT 79 w2 w.heap.size #[.int .i64 k, .int .i64 f, .int .i64 t, .int .i64 c] := by
    have h1 : BoxT 79 (w.alloc (.cells #[.int .i64 k, .int .i64 f, .int .i64 t, .int .i64 c] 79)) w.heap.size #[.int .i64 k, .int .i64 f, .int .i64 t, .int .i64 c] := BoxT.new _ _ _
    have h2 := hft.block w.heap.size (by omega) nfp
    unfold BoxT at *
    rw [h2]; exact h1
  have hft0 : FT (FP s m fq) (FP s m fq') w w2 := (FT.of_below (below_box w _)).trans hft
  exact ⟨hbox, hmp, hom, hft0, hb2, hns, hnm, n1, hsl, hml⟩
set_option maxHeartbeats 8000000 in
set_option maxRecDepth 100000 in
theorem lay_sess {w : World} {s m o : Nat} {size slide ag : Int} {fq : Nat → Prop} {M : List Pn} {R : List SRow} (h : StAt w s m o 3 size slide ag fq M R) {k f t c : Int} (hp : PnOk ⟨k, f, t, c⟩) (hf : f < t) (hM : M.length ≤ 100000) :
    Calls Tryz.prog 99 #[.pointer (some ⟨s, 0, none⟩), .agg #[.int .i64 k, .int .i64 f, .int .i64 t, .int .i64 c]] w (LPost w s m o 3 size slide ag fq M ⟨k, f, t, c⟩) := by
  have hb1 := below_box w (.cells #[.int .i64 k, .int .i64 f, .int .i64 t, .int .i64 c] 79)
  have h1 := h.below (fun i hi => hb1.block i (h.flt i hi)) hb1.size
  have HGA := hide (gathered_any (c := c) h1 hp.k hf hM)
  have HST := hide h
  have HS1 := hide h1
  have HP := hide hp
  have hk1 : (w.alloc (.cells #[.int .i64 k, .int .i64 f, .int .i64 t, .int .i64 c] 79)).cell? ⟨s, 0, none⟩ = some (.int .i64 3) := h1.cells.1
  clear h h1 hb1 hp
  have d3 : ((3 : Int) == 3) = true := rfl
  go_enter Tryz.func99, Tryz.ntmps99
  go_upto_region 3 with (first | (go_at_call 113; refine HGA.out.mono ?_; rintro e w2 ⟨a, b, l, v, v', R0, G, N, hr, hA, hG, rfl, g1, g2, g3, g4, g5, g6⟩; have HRW := hide hr; have HAD := hide hA; have HGI := hide hG; have HL0 := hide (LI.start HST.out g1 g2 g3 g4 g5 g6); clear hr hA hG g1 g2 g3 g4 g5 g6; obtain ⟨y0, y1, y2, y3⟩ := HL0.out.bp.cells4; have yf := fun j => HL0.out.bp.free j) | fail)
  obtain ⟨hcom, hNpl, hwh, hinv⟩ := gath_pure (c := c) (v' := v') HST.out HRW.out hf HAD.out HGI.out
  have hspin : ∀ sp ∈ l, In64 sp.f ∧ In64 sp.t := fun sp hsp => by
    have hrow : ∃ x ∈ M, x.k = k ∧ x.f = sp.f ∧ x.t = sp.t := by
      rcases HRW.out with ⟨_, _, _, rfl⟩ | hp
      · cases hsp
      · exact (HST.out.inv.dn _ (hp.mem_iff.2 (List.mem_cons_self ..)) sp hsp).2
    obtain ⟨x, h1, _, h2, h3⟩ := hrow
    have h4 := HST.out.ok x h1
    exact ⟨h2 ▸ h4.f, h3 ▸ h4.t⟩
  have hwin := whl_in (a := a) (b := b) HP.out.f HP.out.t hspin
  have hcin : In64 (G.foldl (fun a x => jn ag x.a a) c) := foldJ_in G c HP.out.a (fun x hx => (HST.out.ok x (HGI.out.all.mem_iff.2 (List.mem_append_left _ hx))).a)
  have HNok : Hid (∀ x ∈ N, PnOk x) := fun x hx => HST.out.ok x (HGI.out.all.mem_iff.2 (List.mem_append_right _ hx))
  rw [hwh] at hcom hinv
  generalize hWH : whl ⟨f, t⟩ l a b = WH at *
  clear hWH
  obtain ⟨wf, wt⟩ := WH
  simp only at hcom hinv hNpl hwin
  have hgr : w2.grownBy ((((w2.setCell ⟨w.heap.size, 0, none⟩ (.int .i64 k)).setCell ⟨w.heap.size, 1, none⟩ (.int .i64 wf)).setCell ⟨w.heap.size, 2, none⟩ (.int .i64 wt)).setCell ⟨w.heap.size, 3, none⟩ (.int .i64 (G.foldl (fun a x => jn ag x.a a) c))) (some w.heap.size) := grownBy_trans (grownBy_trans (grownBy_trans (grownBy_set _ _ _ _) (grownBy_set _ _ _ _)) (grownBy_set _ _ _ _)) (grownBy_set _ _ _ _)
  have HL := hide (HL0.out.set hgr (k' := k) (f' := wf) (t' := wt) (c' := G.foldl (fun a x => jn ag x.a a) c) (by have := (((HL0.out.bp.set 0 (.int .i64 k)).set 1 (.int .i64 wf)).set 2 (.int .i64 wt)).set 3 (.int .i64 (G.foldl (fun a x => jn ag x.a a) c)); simpa using this))
  have HKEY := hide (keyPl HP.out.k hwin.1 hwin.2)
  have HNO : Hid (∀ p ∈ N.map pEnt, p.1 ≠ (.agg #[.int .i64 k, .int .i64 wf, .int .i64 wt] : Value)) := fun p hp e => by
    obtain ⟨y, hy, rfl⟩ := List.mem_map.1 hp
    simp [pEnt, plV] at e
    exact hNpl y hy e
  have HPK : Hid (PnOk ⟨k, wf, wt, G.foldl (fun a x => jn ag x.a a) c⟩) := ⟨HP.out.k, hwin.1, hwin.2, hcin⟩
  have HCO := hide hcom
  have HIV := hide hinv
  clear hcom hinv hNpl hwin hcin hspin hwh HL0 y0 y1 y2 y3 yf
  generalize hWX : ((((w2.setCell ⟨w.heap.size, 0, none⟩ (.int .i64 k)).setCell ⟨w.heap.size, 1, none⟩ (.int .i64 wf)).setCell ⟨w.heap.size, 2, none⟩ (.int .i64 wt)).setCell ⟨w.heap.size, 3, none⟩ (.int .i64 (G.foldl (fun a x => jn ag x.a a) c))) = WX at *
  clear hWX hgr
  generalize hCC : G.foldl (fun a x => jn ag x.a a) c = CC at *
  clear hCC
  generalize hRR : (⟨k, v', l.take a ++ (⟨wf, wt⟩ : Sp) :: l.drop b⟩ :: R0 : List SRow) = R' at *
  clear hRR
  generalize hFQ : (fun i => fq i ∨ v'.ownBlock = some i) = fq' at *
  clear hFQ
  obtain ⟨b0, b1, b2, b3⟩ := HL.out.bp.cells4
  have HPO := hide (fun w' => placeOf_any w' ⟨k, wf, wt, CC⟩)
  unfold Pn.val plV at HPO
  simp only at HPO
  go_upto_region 4 with (first | (go_at_call 104; refine (HPO.out _).mono ?_; rintro e w3 ⟨rfl, b3'⟩; have H3 := hide (HL.out.below b3'); clear b3') | fail)
  obtain ⟨W4, hW4⟩ : ∃ W4, W4 = w3.alloc (.cells #[.int .i64 k, .int .i64 wf, .int .i64 wt] 150) := ⟨_, rfl⟩
  rw [← hW4]
  have H4 : Hid (LI w W4 s m o 3 size slide ag fq fq' N R' k wf wt CC) := (show LI _ _ _ _ _ _ _ _ _ _ _ _ _ _ _ _ _ by rw [hW4]; exact H3.out.below (below_box w3 _))
  have P4 : Hid (BoxT 150 W4 w3.heap.size #[.int .i64 k, .int .i64 wf, .int .i64 wt]) := (show BoxT _ _ _ _ by rw [hW4]; exact BoxT.new _ _ _)
  clear hW4 b0 b1 b2 b3 HPO
  have HK4 : Hid (∀ w', Below W4.heap.size W4 w' → L4 s m w3.heap.size k wf wt 0 false w') := fun w' hb => by
    have h1 := H4.out.below hb
    obtain ⟨p0, p1, p2⟩ := (BoxT.below (t := 150) P4.out hb).cells3
    obtain ⟨lk, hlk⟩ := HKEY.out
    exact ⟨h1.cells.2.1, p0, p1, p2, h1.mp.look_miss Tryz.lawPl Tryz.underlying113 (Tryz.zeroI w') hlk HNO.out true⟩
  refine wp_region_M (S := fun w' => L4 s m w3.heap.size k wf wt 0 false w') (late := []) (by kernel_rfl) (HK4.out _ (Below.refl _ _).drew) (fun hH => ?_)
  (try simp only [List.size_toArray, List.length_cons, List.length_nil, Nat.zero_add, Nat.reduceAdd, Array.replicate, List.replicate])
  refine tkM 0 ?_ ?_ hH ?_
  rotate_left
  · (intro w' hSw; unfold L4 at hSw; go_simp; try (with_reducible rfl))
  (try simp only [Act.put, List.setIfInBounds_toArray, List.set_cons_zero, List.set_cons_succ])
  refine tkM 1 ?_ ?_ hH ?_
  rotate_left
  · (intro w' hSw; unfold L4 at hSw; go_simp; try (with_reducible rfl))
  (try simp only [Act.put, List.setIfInBounds_toArray, List.set_cons_zero, List.set_cons_succ])
  refine tkM 2 ?_ ?_ hH ?_
  rotate_left
  · (intro w' hSw; unfold L4 at hSw; go_simp; try (with_reducible rfl))
  (try simp only [Act.put, List.setIfInBounds_toArray, List.set_cons_zero, List.set_cons_succ])
  refine tkM 3 ?_ ?_ hH ?_
  rotate_left
  · (intro w' hSw; unfold L4 at hSw; go_simp; try (with_reducible rfl))
  (try simp only [Act.put, List.setIfInBounds_toArray, List.set_cons_zero, List.set_cons_succ])
  refine tkM 4 ?_ ?_ hH ?_
  rotate_left
  · (intro w' hSw; unfold L4 at hSw; go_simp; try (with_reducible rfl))
  (try simp only [Act.put, List.setIfInBounds_toArray, List.set_cons_zero, List.set_cons_succ])
  refine tkM 5 ?_ ?_ hH ?_
  rotate_left
  · (intro w' hSw; unfold L4 at hSw; go_simp; try (with_reducible rfl))
  (try simp only [Act.put, List.setIfInBounds_toArray, List.set_cons_zero, List.set_cons_succ])
  refine tkM 6 ?_ ?_ hH ?_
  rotate_left
  · (intro w' hSw; unfold L4 at hSw; go_simp; try (with_reducible rfl))
  (try simp only [Act.put, List.setIfInBounds_toArray, List.set_cons_zero, List.set_cons_succ])
  refine tkM 7 ?_ ?_ hH ?_
  rotate_left
  · (intro w' hSw; unfold L4 at hSw; go_simp; try (with_reducible rfl))
  (try simp only [Act.put, List.setIfInBounds_toArray, List.set_cons_zero, List.set_cons_succ])
  refine tkM 8 ?_ ?_ hH ?_
  rotate_left
  · (intro w' hSw; unfold L4 at hSw; go_simp; try (with_reducible rfl))
  (try simp only [Act.put, List.setIfInBounds_toArray, List.set_cons_zero, List.set_cons_succ])
  refine tkM 9 ?_ ?_ hH ?_
  rotate_left
  · (intro w' hSw; unfold L4 at hSw; go_simp; try (with_reducible rfl))
  (try simp only [Act.put, List.setIfInBounds_toArray, List.set_cons_zero, List.set_cons_succ])
  refine tkM 10 ?_ ?_ hH ?_
  rotate_left
  · (intro w' hSw; unfold L4 at hSw; go_simp; try (with_reducible rfl))
  (try simp only [Act.put, List.setIfInBounds_toArray, List.set_cons_zero, List.set_cons_succ])
  refine wpAnyM_done (by kernel_rfl) ?_ _
  have H6 := hide (H4.out.below ((Below.refl _ _).drew))
  have P6 : Hid (BoxT 150 W4.drew w3.heap.size #[.int .i64 k, .int .i64 wf, .int .i64 wt]) := P4.out
  clear hH
  generalize hw6 : W4.drew = w6 at *
  clear hw6
  go_upto_region 7 with fail
  have H7 := hide (H6.out.below ((Below.refl _ _).drew))
  obtain ⟨lk, hlk⟩ := HKEY.out
  obtain ⟨w7, hrun7, hm7, ht7⟩ := H7.out.mp.store_new (v := .int .i64 CC) Tryz.lawPl Tryz.underlying113 hlk HNO.out
  obtain ⟨_, e4, e3⟩ := H6.out.cells
  obtain ⟨p0, p1, p2⟩ := P6.out.cells3
  have hL7 : L7 s m w3.heap.size w.heap.size k wf wt CC w7 := by
    have hne : ∀ {ty : TypeId} {i : Nat} {cs : Array Value}, BoxT ty w6.drew i cs → BoxT ty w7 i cs := fun {ty i cs} hb => by
      have h1 : i ≠ m := fun e => by
        obtain ⟨es, ck, h1⟩ := H7.out.mp.isMap
        unfold BoxT at hb
        rw [e, h1] at hb
        cases hb
      have h2 := ht7.other h1
      unfold BoxT at *
      rw [h2]; exact hb
    have q1 := hne H7.out.box
    have q2 := hne H7.out.bp
    have q3 := hne (ty := 150) P6.out
    obtain ⟨r0, r1, r2⟩ := q3.cells3
    obtain ⟨_, _, _, r3⟩ := q2.cells4
    exact ⟨by rw [q1.cellAt]; rfl, r0, r1, r2, r3⟩
  have HL7 := hide hL7
  have HM7 := hide (And.intro hm7 ht7)
  clear hL7 hm7 ht7
  refine wp_region_M (S := fun w' => L7 s m w3.heap.size w.heap.size k wf wt CC w') (late := []) (by kernel_rfl) ⟨e4, p0, p1, p2, e3⟩ (fun hH => ?_)
  (try simp only [List.size_toArray, List.length_cons, List.length_nil, Nat.zero_add, Nat.reduceAdd, Array.replicate, List.replicate])
  refine tkM 0 ?_ ?_ hH ?_
  rotate_left
  · (intro w' hSw; unfold L7 at hSw; go_simp; try (with_reducible rfl))
  (try simp only [Act.put, List.setIfInBounds_toArray, List.set_cons_zero, List.set_cons_succ])
  refine tkM 1 ?_ ?_ hH ?_
  rotate_left
  · (intro w' hSw; unfold L7 at hSw; go_simp; try (with_reducible rfl))
  (try simp only [Act.put, List.setIfInBounds_toArray, List.set_cons_zero, List.set_cons_succ])
  refine tkM 2 ?_ ?_ hH ?_
  rotate_left
  · (intro w' hSw; unfold L7 at hSw; go_simp; try (with_reducible rfl))
  (try simp only [Act.put, List.setIfInBounds_toArray, List.set_cons_zero, List.set_cons_succ])
  refine tkM 3 ?_ ?_ hH ?_
  rotate_left
  · (intro w' hSw; unfold L7 at hSw; go_simp; try (with_reducible rfl))
  (try simp only [Act.put, List.setIfInBounds_toArray, List.set_cons_zero, List.set_cons_succ])
  refine tkM 4 ?_ ?_ hH ?_
  rotate_left
  · (intro w' hSw; unfold L7 at hSw; go_simp; try (with_reducible rfl))
  (try simp only [Act.put, List.setIfInBounds_toArray, List.set_cons_zero, List.set_cons_succ])
  refine tkM 5 ?_ ?_ hH ?_
  rotate_left
  · (intro w' hSw; unfold L7 at hSw; go_simp; try (with_reducible rfl))
  (try simp only [Act.put, List.setIfInBounds_toArray, List.set_cons_zero, List.set_cons_succ])
  refine tkM 6 ?_ ?_ hH ?_
  rotate_left
  · (intro w' hSw; unfold L7 at hSw; go_simp; try (with_reducible rfl))
  (try simp only [Act.put, List.setIfInBounds_toArray, List.set_cons_zero, List.set_cons_succ])
  refine wpAnyM_one (i := 7) (o := ⟨_, _, _, _, _, _⟩) (by kernel_rfl) rfl (fun K hK => ?_)
  refine step_put_run rfl _ _ _ 113 rfl _ _ _ rfl rfl rfl hrun7 ?_
  refine hK.out _ _ HL7.out (fun hH => ?_)
  clear hK K
  (try simp only [List.setIfInBounds_toArray, List.set_cons_zero, List.set_cons_succ])
  refine wpAnyM_done (by kernel_rfl) ?_ _
  go_wp2_with fail
  go_end0
  have hnew : (⟨k, wf, wt, CC⟩ :: N : List Pn).map pEnt = (plV ⟨k, wf, wt, CC⟩, .int .i64 CC) :: N.map pEnt := rfl
  obtain ⟨q1, q2⟩ := H7.out.fin (N' := ⟨k, wf, wt, CC⟩ :: N) (by rw [hnew]; exact HM7.out.1) HM7.out.2 (fun y hy => by
    rcases List.mem_cons.1 hy with rfl | hy
    · exact HPK.out
    · exact HNok.out y hy) HIV.out
  exact ⟨rfl, _, _, _, q1, q2, HCO.out⟩
theorem lay_any {w : World} {s m o : Nat} {kd size slide ag : Int} {fq : Nat → Prop} {M : List Pn} {R : List SRow} (h : StAt w s m o kd size slide ag fq M R) {k f t c : Int} (hp : PnOk ⟨k, f, t, c⟩) (hf : kd = 3 → f < t) (hM : M.length ≤ 100000) :
    Calls Tryz.prog 99 #[.pointer (some ⟨s, 0, none⟩), .agg #[.int .i64 k, .int .i64 f, .int .i64 t, .int .i64 c]] w (LPost w s m o kd size slide ag fq M ⟨k, f, t, c⟩) := by
  by_cases hk : kd = 3
  · subst hk
    exact lay_sess h hp (hf rfl) hM
  · exact lay_plain h hk hp
end Go.Proofs.YtpcbhcdpegbfjaaGreat
/-
  spans, Put, New, Load.
-/
namespace Go.Proofs.YtpcbhcdpegbfjaaGreat
open Go.RowKit

def sps (kd size slide t : Int) : List Sp := if kd = 0 then [⟨-9223372036854775808, 2199023255553⟩] else pSpans kd size slide t
def frS (kd size slide ag : Int) (r : Rc) : List Pn := (sps kd size slide r.t).map fun sp => ⟨r.k, sp.f, sp.t, ad ag (zr ag) r.v⟩
theorem sps_len (kd size slide t : Int) : (sps kd size slide t).length ≤ 64 := by
  unfold sps
  split
  · simp
  · exact pSpans_len _ _ _ _
set_option maxHeartbeats 8000000 in
set_option maxRecDepth 100000 in
theorem sspans_any {w : World} {s m o : Nat} {kd size slide ag : Int} {fq : Nat → Prop} {M : List Pn} {R : List SRow} (h : StAt w s m o kd size slide ag fq M R) (hs : In64 size) (hl : In64 slide) (t : Int) :
    Calls Tryz.prog 110 #[.pointer (some ⟨s, 0, none⟩), .int .i64 t] w fun e w' => ∃ u, e = .returned u ∧ OwnL 72 2 Sp.cs w.heap.size w' u (sps kd size slide t) ∧ Below w.heap.size w w' := by
  obtain ⟨c0, c1, c2, _⟩ := h.cells
  have HR := hide (isReduce_any c0)
  have HSP := hide (Spans_any w kd t hs hl)
  clear h
  unfold sps
  by_cases hk : kd = 0
  · rw [if_pos hk]
    subst hk
    have ho : OwnL 72 2 Sp.cs w.heap.size (w.alloc (.cells (Sp.cs ⟨-9223372036854775808, 2199023255553⟩).toArray 72)) (.slice (some ⟨w.heap.size, 0, none⟩) 1 1) [⟨-9223372036854775808, 2199023255553⟩] := own_one _ rfl rfl (Nat.le_refl _)
    have HO := hide ho
    clear ho
    go_enter Tryz.func110, Tryz.ntmps110
    go_wp2_with (first | (go_at_call 100; refine HR.out.mono ?_; rintro e w1 ⟨rfl, rfl⟩) | fail)
    go_ret
    exact ⟨_, rfl, HO.out, below_box w1 _⟩
  · rw [if_neg hk]
    have hk' : (kd == 0) = false := by simpa using hk
    rw [hk'] at HR
    go_enter Tryz.func110, Tryz.ntmps110
    go_wp2_with (first | (go_at_call 100; refine HR.out.mono ?_; rintro e w1 ⟨rfl, rfl⟩) | (go_at_call 119; refine HSP.out.mono ?_; rintro e w2 ⟨u, rfl, o2, b2⟩) | fail)
    go_ret
    exact ⟨u, rfl, o2, b2⟩
def P1 (s K : Nat) (ag v : Int) (w' : World) : Prop := w'.cell? ⟨s, 3, none⟩ = some (.int .i64 ag) ∧ w'.cell? ⟨K, 2, none⟩ = some (.int .i64 v)
structure PI (w wr : World) (s m o : Nat) (kd size slide ag : Int) (fq fq' : Nat → Prop) (M' : List Pn) (R' : List SRow) (r : Rc) (u : Value) (ss : List Sp) : Prop where
  st : StAt wr s m o kd size slide ag fq' M' R'
  ft : FT (FP s m fq) (FP s m fq') w wr
  bx : BoxT 38 wr w.heap.size #[.int .i64 r.k, .int .i64 r.t, .int .i64 r.v]
  row : OwnL 72 2 Sp.cs (w.heap.size + 1) wr u ss
  n1 : ¬ FP s m fq' w.heap.size
  n2 : ∀ g, u.ownBlock = some g → ¬ FP s m fq' g
theorem PI.step {w wr w' : World} {s m o : Nat} {kd size slide ag : Int} {fq fq' fq'' : Nat → Prop} {M' M'' : List Pn} {R' R'' : List SRow} {r : Rc} {u : Value} {ss : List Sp} {W : World} (h : PI w wr s m o kd size slide ag fq fq' M' R' r u ss) (hb : Below wr.heap.size wr W) (hst : StAt w' s m o kd size slide ag fq'' M'' R'') (hft : FT (FP s m fq') (FP s m fq'') W w') : PI w w' s m o kd size slide ag fq fq'' M'' R'' r u ss := by
  have hl := h.bx.lt
  have sz := hb.size
  have keep : ∀ g, g < wr.heap.size → ¬ FP s m fq' g → w'.heap[g]? = wr.heap[g]? := fun g hg hn => (hft.block g (by omega) hn).trans (hb.block g hg)
  have nn : ∀ g, g < wr.heap.size → ¬ FP s m fq' g → ¬ FP s m fq'' g := fun g hg hn e => by
    rcases hft.sub g e with e | e
    · exact hn e
    · omega
  refine ⟨hst, (h.ft.trans (FT.of_below hb)).trans hft, ?_, h.row.back (fun g e => keep g (h.row.lt g e) (h.n2 g e)), nn _ hl h.n1, fun g e => nn g (h.row.lt g e) (h.n2 g e)⟩
  have h1 := h.bx
  have h2 := keep _ hl h.n1
  unfold BoxT at *
  rw [h2]; exact h1
def PPost (w : World) (s m o : Nat) (kd size slide ag : Int) (fq : Nat → Prop) (M : List Pn) (r : Rc) (e : Ending) (w' : World) : Prop := e = .returned (.tuple #[]) ∧ ∃ fq' M' R', StAt w' s m o kd size slide ag fq' M' R' ∧ FT (FP s m fq) (FP s m fq') w w' ∧ Comes (sess kd) (jn ag) (frS kd size slide ag r ++ M) M'
theorem take_map_snoc {l : List Sp} {i : Nat} {x : Sp} (h : l[i]? = some x) (g : Sp → Pn) : ((l.take (i + 1)).map g) = (l.take i).map g ++ [g x] := by
  have hl := lt_of_get h
  have e : l[i] = x := by rw [List.getElem?_eq_getElem hl] at h; exact Option.some.inj h
  rw [List.take_succ_eq_append_getElem hl, e, List.map_append]; rfl
set_option maxHeartbeats 8000000 in
set_option maxRecDepth 100000 in
theorem Put_st {w : World} {s m o : Nat} {kd size slide ag : Int} {fq : Nat → Prop} {M : List Pn} {R : List SRow} (h : StAt w s m o kd size slide ag fq M R) (hs : In64 size) (hl : In64 slide) (r : Rc) (hrk : In64 r.k) (hrv : In64 r.v) (hsp : ∀ sp ∈ sps kd size slide r.t, In64 sp.f ∧ In64 sp.t ∧ (kd = 3 → sp.f < sp.t)) (hM : M.length ≤ 90000) (hap : Apart (sess kd) M) :
    Calls Tryz.prog 97 #[.pointer (some ⟨s, 0, none⟩), .agg #[.int .i64 r.k, .int .i64 r.t, .int .i64 r.v]] w (PPost w s m o kd size slide ag fq M r) := by
  obtain ⟨rk, rt, rv⟩ := r
  simp only at hrk hrv hsp
  have hb1 := below_box w (.cells #[.int .i64 rk, .int .i64 rt, .int .i64 rv] 38)
  obtain ⟨W1, hW1⟩ : ∃ W1, W1 = w.alloc (.cells #[.int .i64 rk, .int .i64 rt, .int .i64 rv] 38) := ⟨_, rfl⟩
  rw [← hW1] at hb1
  have hs1 : W1.heap.size = w.heap.size + 1 := by rw [hW1]; simp
  have hr1 : BoxT 38 W1 w.heap.size #[.int .i64 rk, .int .i64 rt, .int .i64 rv] := by rw [hW1]; exact BoxT.new _ _ _
  have h1 := h.below (fun i hi => hb1.block i (h.flt i hi)) hb1.size
  have HK : Hid (∀ w', Below W1.heap.size W1 w' → P1 s w.heap.size ag rv w') := fun w' hb => ⟨by rw [(BoxT.below (t := 117) h1.box hb).cellAt]; rfl, by rw [(BoxT.below (t := 38) hr1 hb).cellAt]; rfl⟩
  have HZ : Hid (∀ w', Below W1.heap.size W1 w' → Calls Tryz.prog 109 #[.int .i64 ag] w' fun e w'' => e = .returned (.int .i64 (zr ag)) ∧ Below W1.heap.size W1 w'') := fun w' hb => (Zero_any w' ag).mono (by rintro e w'' ⟨rfl, h2⟩; exact ⟨rfl, hb.trans (h2.mono hb.size)⟩)
  have HAD : Hid (∀ w', Below W1.heap.size W1 w' → Calls Tryz.prog 108 #[.int .i64 ag, .int .i64 (zr ag), .int .i64 rv] w' fun e w'' => e = .returned (.int .i64 (ad ag (zr ag) rv)) ∧ Below W1.heap.size W1 w'') := fun w' hb => (Add_any w' ag (zr ag) rv).mono (by rintro e w'' ⟨rfl, h2⟩; exact ⟨rfl, hb.trans (h2.mono hb.size)⟩)
  have HSPA : Hid (∀ w', Below W1.heap.size W1 w' → Calls Tryz.prog 110 #[.pointer (some ⟨s, 0, none⟩), .int .i64 rt] w' fun e w'' => ∃ u, e = .returned u ∧ OwnL 72 2 Sp.cs w'.heap.size w'' u (sps kd size slide rt) ∧ Below w'.heap.size w' w'') := fun w' hb => sspans_any (h1.below (fun i hi => hb.block i (h1.flt i hi)) hb.size) hs hl rt
  have HH := hide h
  have H1 := hide h1
  have HR1 := hide hr1
  have HB1 := hide hb1
  have HSZ := hide hs1
  have HIN : Hid (In64 (ad ag (zr ag) rv)) := ad_in (zr_in ag) hrv
  have HSI := hide hsp
  have HSL := hide (sps_len kd size slide rt)
  have HFR : Hid (frS kd size slide ag ⟨rk, rt, rv⟩ = (sps kd size slide rt).map fun sp => ⟨rk, sp.f, sp.t, ad ag (zr ag) rv⟩) := rfl
  have HAP := hide hap
  generalize ad ag (zr ag) rv = V at *
  generalize zr ag = Z at *
  clear h h1 hr1 hb1 hs1 hsp hap
  go_enter Tryz.func97, Tryz.ntmps97
  go_upto_region 1 with fail
  rw [← hW1]
  clear hW1
  refine wp_region_M (S := fun w' => P1 s w.heap.size ag rv w') (late := []) (by kernel_rfl) (HK.out _ (Below.refl _ _).drew) (fun hH => ?_)
  (try simp only [List.size_toArray, List.length_cons, List.length_nil, Nat.zero_add, Nat.reduceAdd, Array.replicate, List.replicate])
  refine tkM 0 ?_ ?_ hH ?_
  rotate_left
  · (intro w' hSw; unfold P1 at hSw; go_simp; try (with_reducible rfl))
  (try simp only [Act.put, List.setIfInBounds_toArray, List.set_cons_zero, List.set_cons_succ])
  refine tkM 1 ?_ ?_ hH ?_
  rotate_left
  · (intro w' hSw; unfold P1 at hSw; go_simp; try (with_reducible rfl))
  (try simp only [Act.put, List.setIfInBounds_toArray, List.set_cons_zero, List.set_cons_succ])
  refine tkM 2 ?_ ?_ hH ?_
  rotate_left
  · (intro w' hSw; unfold P1 at hSw; go_simp; try (with_reducible rfl))
  (try simp only [Act.put, List.setIfInBounds_toArray, List.set_cons_zero, List.set_cons_succ])
  refine tkM 3 ?_ ?_ hH ?_
  rotate_left
  · (intro w' hSw; unfold P1 at hSw; go_simp; try (with_reducible rfl))
  (try simp only [Act.put, List.setIfInBounds_toArray, List.set_cons_zero, List.set_cons_succ])
  refine tkM 4 ?_ ?_ hH ?_
  rotate_left
  · (intro w' hSw; unfold P1 at hSw; go_simp; try (with_reducible rfl))
  (try simp only [Act.put, List.setIfInBounds_toArray, List.set_cons_zero, List.set_cons_succ])
  refine tkM 5 ?_ ?_ hH ?_
  rotate_left
  · (intro w' hSw; unfold P1 at hSw; go_simp; try (with_reducible rfl))
  (try simp only [Act.put, List.setIfInBounds_toArray, List.set_cons_zero, List.set_cons_succ])
  refine tkM 6 ?_ ?_ hH ?_
  rotate_left
  · (intro w' hSw; unfold P1 at hSw; go_simp; try (with_reducible rfl))
  (try simp only [Act.put, List.setIfInBounds_toArray, List.set_cons_zero, List.set_cons_succ])
  refine tkM 7 ?_ ?_ hH ?_
  rotate_left
  · (intro w' hSw; unfold P1 at hSw; go_simp; try (with_reducible rfl))
  (try simp only [Act.put, List.setIfInBounds_toArray, List.set_cons_zero, List.set_cons_succ])
  refine tkM 9 ?_ ?_ hH ?_
  rotate_left
  · (intro w' hSw; unfold P1 at hSw; go_simp; try (with_reducible rfl))
  (try simp only [Act.put, List.setIfInBounds_toArray, List.set_cons_zero, List.set_cons_succ])
  refine tkM 10 ?_ ?_ hH ?_
  rotate_left
  · (intro w' hSw; unfold P1 at hSw; go_simp; try (with_reducible rfl))
  (try simp only [Act.put, List.setIfInBounds_toArray, List.set_cons_zero, List.set_cons_succ])
  refine wpAnyM_one (i := 8) (o := ⟨_, _, _, _, _, _⟩) (by kernel_rfl) rfl (fun K hK => ?_)
  go_simp
  go_at_call 109
  refine (HZ.out _ (Below.refl _ _).drew).mono ?_
  rintro e w2 ⟨rfl, b2⟩
  have B2 := hide b2
  refine hK.out _ _ (HK.out _ b2) (fun hH => ?_)
  clear hK K b2
  (try simp only [List.setIfInBounds_toArray, List.set_cons_zero, List.set_cons_succ])
  refine wpAnyM_one (i := 11) (o := ⟨_, _, _, _, _, _⟩) (by kernel_rfl) rfl (fun K hK => ?_)
  go_simp
  go_at_call 108
  refine (HAD.out _ B2.out).mono ?_
  rintro e w3 ⟨rfl, b3⟩
  have B3 := hide b3
  refine hK.out _ _ (HK.out _ b3) (fun hH => ?_)
  clear hK K b3
  (try simp only [List.setIfInBounds_toArray, List.set_cons_zero, List.set_cons_succ])
  refine tkM 12 ?_ ?_ hH ?_
  rotate_left
  · (intro w' hSw; unfold P1 at hSw; go_simp; try (with_reducible rfl))
  (try simp only [Act.put, List.setIfInBounds_toArray, List.set_cons_zero, List.set_cons_succ])
  refine wpAnyM_done (by kernel_rfl) ?_ _
  clear hH
  have HS3 := hide (HSPA.out _ B3.out)
  obtain ⟨r0, r1, r2⟩ := (BoxT.below (t := 38) HR1.out B3.out).cells3
  go_wp2_with (first | (go_at_call 110; refine HS3.out.mono ?_; rintro e w4 ⟨u, rfl, o4, b4⟩; obtain ⟨ua, uc, rfl⟩ := o4.shape; have O4 := hide o4; have B4 := hide (B3.out.trans (b4.mono B3.out.size)); clear o4 b4) | fail)
  have HI : Hid (PI w w4 s m o kd size slide ag fq fq M R ⟨rk, rt, rv⟩ (.slice ua (sps kd size slide rt).length uc) (sps kd size slide rt)) := by
    have hbw := HB1.out.trans (B4.out.mono HB1.out.size)
    have hsz3 := B3.out.size
    have hfl := HH.out.flt
    refine ⟨HH.out.below (fun i hi => hbw.block i (hfl i hi)) hbw.size, FT.of_below hbw, BoxT.below (t := 38) HR1.out B4.out, O4.out.mono (by have := HSZ.out; omega), fun e => by have := hfl _ e; omega, fun g e e2 => ?_⟩
    have h1 := O4.out.at g e
    have h2 := hfl g e2
    have := HSZ.out
    omega
  generalize hSS : sps kd size slide rt = SS at *
  clear hSS r0 r1 r2 HS3
  go_loopg [24] (SS.length + 1) (fun gh iv wr => ∃ (i : Nat) (fq' : Nat → Prop) (M' : List Pn) (R' : List SRow), iv = .int .i64 (i : Int) ∧ i ≤ SS.length ∧ SS.length + 1 ≤ gh + i ∧ Hid (PI w wr s m o kd size slide ag fq fq' M' R' ⟨rk, rt, rv⟩ (.slice ua SS.length uc) SS) ∧ Hid (Comes (sess kd) (jn ag) ((SS.take i).map (fun sp => ⟨rk, sp.f, sp.t, V⟩) ++ M) M'))
  case atStart => exact ⟨0, fq, M, R, rfl, by omega, by omega, HI, (show Comes _ _ _ _ from Comes.refl HAP.out)⟩
  case round =>
    clear HI
    obtain ⟨i, fq', M', R', rfl, hi, hg, HP, HC⟩ := hrel
    obtain ⟨go, rfl⟩ : ∃ go, gk = go + 1 := ⟨gk - 1, by omega⟩
    have hs64 := HSL.out
    by_cases hlt : i < SS.length
    · obtain ⟨sp, hx⟩ := get_of_lt hlt
      have bt : (i : Int) < (SS.length : Int) := by omega
      obtain ⟨nb, no, rfl, nlt, e0, e1⟩ := (HP.out.row.seg Sp.cs_len (by have := HSL.out; omega)).span hx
      have hin := HSI.out sp (List.mem_of_getElem? hx)
      have HTS := hide (take_map_snoc hx (fun sp => (⟨rk, sp.f, sp.t, V⟩ : Pn)))
      obtain ⟨xf, xt⟩ := sp
      simp only at e0 e1 hin
      obtain ⟨r0, r1, r2⟩ := HP.out.bx.cells3
      have hbx := below_box wr (.cells #[.int .i64 xf, .int .i64 xt] 72)
      have hst := HP.out.st.below (fun i hi => hbx.block i (HP.out.st.flt i hi)) hbx.size
      have hml : M'.length ≤ 100000 := by
        have h1 := HC.out.1.len
        rw [List.length_append, List.length_map, List.length_take] at h1
        have := HSL.out
        omega
      have HLA := hide (lay_any hst (k := rk) (f := xf) (t := xt) (c := V) ⟨hrk, hin.1, hin.2.1, HIN.out⟩ hin.2.2 hml)
      have HBX := hide hbx
      have r0' := cell_alloc r0 (.cells #[.int .i64 xf, .int .i64 xt] 72)
      clear hbx hst hml hx hin
      go_wp2_with (first | (go_at_call 99; refine HLA.out.mono ?_; rintro e w5 ⟨rfl, fq'', M'', R'', st5, ft5, c5⟩; have H5 := hide (HP.out.step HBX.out st5 ft5); have C5 := hide c5; clear st5 ft5 c5) | fail)
      go_roundg go
      case rel =>
        refine ⟨i + 1, fq'', M'', R'', by go_num, by omega, by omega, H5, (show Comes _ _ _ _ from ?_)⟩
        rw [HTS.out, List.append_assoc]
        have h6 := Comes.step (q := [⟨rk, xf, xt, V⟩]) HC.out C5.out
        exact h6.perm (by rw [List.cons_append, List.nil_append, List.cons_append, List.nil_append]; exact List.perm_middle.symm) (.refl _)
      case measure => omega
    · obtain rfl : i = SS.length := by omega
      have bt : ¬ ((SS.length : Nat) : Int) < (SS.length : Int) := by omega
      go_wp2_with fail
      go_end0
      refine ⟨rfl, fq', M', R', HP.out.st, HP.out.ft, ?_⟩
      have h6 := HC.out
      rw [List.take_of_length_le (Nat.le_refl _)] at h6
      rw [HFR.out]; exact h6
def APost (w : World) (s : Nat) (kd size slide ag : Int) (fp : Nat → Prop) (L : List Pn) (w' : World) : Prop := ∃ fp' M', SA w' s kd size slide ag fp' M' ∧ FT fp fp' w w' ∧ Comes (sess kd) (jn ag) L M'
theorem FT.congr {fp fp' fq fq' : Nat → Prop} {w w' : World} (h : FT fq fq' w w') (h1 : ∀ i, fp i ↔ fq i) (h2 : ∀ i, fp' i ↔ fq' i) : FT fp fp' w w' :=
  ⟨h.os, h.tape, h.output, h.size, fun i hi hn => h.block i hi (fun e => hn ((h1 i).2 e)), fun i hi => by
    rcases h.sub i ((h2 i).1 hi) with e | e
    · exact .inl ((h1 i).2 e)
    · exact .inr e⟩
theorem SA.places {w : World} {s : Nat} {kd size slide ag : Int} {fp : Nat → Prop} {M : List Pn} (h : SA w s kd size slide ag fp M) : Places M := by
  obtain ⟨m, o, fq, R, h, _⟩ := h
  exact places_of h.mp
theorem Put_any {w : World} {s : Nat} {kd size slide ag : Int} {fp : Nat → Prop} {M : List Pn} (h : SA w s kd size slide ag fp M) (hs : In64 size) (hl : In64 slide) (r : Rc) (hrk : In64 r.k) (hrv : In64 r.v) (hsp : ∀ sp ∈ sps kd size slide r.t, In64 sp.f ∧ In64 sp.t ∧ (kd = 3 → sp.f < sp.t)) (hM : M.length ≤ 90000) (hap : Apart (sess kd) M) :
    Calls Tryz.prog 97 #[.pointer (some ⟨s, 0, none⟩), .agg #[.int .i64 r.k, .int .i64 r.t, .int .i64 r.v]] w fun e w' => e = .returned (.tuple #[]) ∧ APost w s kd size slide ag fp (frS kd size slide ag r ++ M) w' := by
  obtain ⟨m, o, fq, R, h, hf⟩ := h
  refine (Put_st h hs hl r hrk hrv hsp hM hap).mono ?_
  rintro e w' ⟨rfl, fq', M', R', h1, h2, h3⟩
  exact ⟨rfl, FP s m fq', M', ⟨m, o, fq', R', h1, fun _ => Iff.rfl⟩, h2.congr hf (fun _ => Iff.rfl), h3⟩
end Go.Proofs.YtpcbhcdpegbfjaaGreat
/-
  New, Load.
-/
namespace Go.Proofs.YtpcbhcdpegbfjaaGreat
open Go.RowKit

theorem Row.seg {α : Type} {t sz : Nat} {cs : α → List Value} {base : Nat} {w : World} {v : Value} {xs : List α} (h : Row t sz cs base w v xs) (hcs : ∀ x, (cs x).length = sz) (hl : xs.length ≤ 140737488355328) : LSeg sz cs w.heap.size w v xs := by
  rcases h with ⟨rfl, rfl⟩ | ⟨g, off, cap, cur, rfl, h2, h3, h4, h5, h6, h7⟩
  · exact LSeg.nil' _ _ _ _
  · refine ⟨_, cap, rfl, hl, .inr ⟨g, off, rfl, h3.lt, fun i x hi j u hu => ?_⟩⟩
    rw [h3.cellAt, Nat.add_assoc]
    exact h7 _ u (flat_get hcs xs i j x u hi hu)
theorem fresh_state {w : World} {s m o : Nat} {kd size slide ag : Int} (hb : BoxT 117 w s #[.int .i64 kd, .int .i64 size, .int .i64 slide, .int .i64 ag, .map (some m), .map (some o)]) (hm : MapAt Tryz.prog 150 w m []) (ho : MapAt Tryz.prog 2 w o []) (hmo : m ≠ o) : StAt w s m o kd size slide ag (fun i => i = o) [] [] := by
  have hso : ¬ s = o := fun e => by
    obtain ⟨es, ck, h1⟩ := ho.isMap
    unfold BoxT at hb
    rw [e, h1] at hb
    cases hb
  exact ⟨hb, hm, ⟨ho, fun r hr => (by cases hr), fun r hr => (by cases hr), .nil, rfl, fun i hi => hi ▸ ho.lt⟩, fun x hx => (by cases hx), hso, hmo, ⟨fun _ => rfl, fun _ x hx => (by cases hx), fun r hr => (by cases hr), fun r hr => (by cases hr)⟩⟩
theorem made_at (P : Program) (K : TypeId) (w : World) {n : Nat} (hn : n = w.heap.size) : MapAt P K (w.alloc (.map #[] 0)) n [] := by subst hn; exact MapAt.made P K w
theorem MapAt.alloc {P : Program} {K : TypeId} {w : World} {b : Nat} {M : List (Value × Value)} (h : MapAt P K w b M) (o : Obj) : MapAt P K (w.alloc o) b M := h.back (Below.heap_alloc w o b h.lt)
set_option maxHeartbeats 8000000 in
set_option maxRecDepth 100000 in
theorem New_any (w : World) (kd size slide ag : Int) : Calls Tryz.prog 39 #[.agg #[.int .i64 kd, .int .i64 size, .int .i64 slide], .int .i64 ag] w fun e w' => ∃ s fp, e = .returned (.pointer (some ⟨s, 0, none⟩)) ∧ SA w' s kd size slide ag fp [] ∧ (∀ i, fp i → w.heap.size ≤ i) ∧ Below w.heap.size w w' := by
  have hmm := @run_makeMap Tryz.prog
  go_enter Tryz.func39, Tryz.ntmps39
  go_wp2_with fail
  go_ret
  refine ⟨w.heap.size + 1 + 1 + 1, FP (w.heap.size + 1 + 1 + 1) (w.heap.size + 1) (fun i => i = w.heap.size + 1 + 1), rfl, ⟨w.heap.size + 1, w.heap.size + 1 + 1, _, _, fresh_state (BoxT.new_at (t := 117) (by simp)) (((made_at _ _ _ (by simp)).alloc _).alloc _) ((made_at _ _ _ (by simp)).alloc _) (by omega), fun _ => Iff.rfl⟩, fun i hi => ?_, ?_⟩
  · rcases hi with e | e | e <;> omega
  · exact ((((Below.refl _ _).alloc (Nat.le_refl _) _).alloc (by simp) _).alloc (by simp; omega) _).alloc (by simp; omega) _
structure LdI (w wr : World) (s m o : Nat) (kd size slide ag : Int) (fp : Nat → Prop) (fq' : Nat → Prop) (M' : List Pn) (R' : List SRow) (u : Value) (L : List Pn) : Prop where
  st : StAt wr s m o kd size slide ag fq' M' R'
  ft : FT fp (FP s m fq') w wr
  row : LSeg 4 Pn.cs wr.heap.size wr u L
  n2 : ∀ g, u.ownBlock = some g → ¬ FP s m fq' g
theorem LSeg.off {w w' : World} {u : Value} {L : List Pn} (h : LSeg 4 Pn.cs w.heap.size w u L) (hb : ∀ g, u.ownBlock = some g → w'.heap[g]? = w.heap[g]?) (hs : w.heap.size ≤ w'.heap.size) : LSeg 4 Pn.cs w'.heap.size w' u L := by
  obtain ⟨ao, cap, rfl, hl, hc⟩ := h
  refine ⟨ao, cap, rfl, hl, ?_⟩
  rcases hc with hc | ⟨b, off, rfl, hbl, hc⟩
  · exact .inl hc
  · refine .inr ⟨b, off, rfl, by omega, fun i x hx j v hv => ?_⟩
    have h1 := hc i x hx j v hv
    rw [World.cell?] at h1 ⊢
    rw [hb b rfl]; exact h1
theorem LdI.step {w wr w' W : World} {s m o : Nat} {kd size slide ag : Int} {fp fq' fq'' : Nat → Prop} {M' M'' : List Pn} {R' R'' : List SRow} {u : Value} {L : List Pn} (h : LdI w wr s m o kd size slide ag fp fq' M' R' u L) (hb : Below wr.heap.size wr W) (hst : StAt w' s m o kd size slide ag fq'' M'' R'') (hft : FT (FP s m fq') (FP s m fq'') W w') (hlt : ∀ g, u.ownBlock = some g → g < wr.heap.size) : LdI w w' s m o kd size slide ag fp fq'' M'' R'' u L := by
  have sz := hb.size
  have s2 := hft.size
  refine ⟨hst, (h.ft.trans (FT.of_below hb)).trans hft, h.row.off (fun g e => (hft.block g (by have := hlt g e; omega) (h.n2 g e)).trans (hb.block g (hlt g e))) (by omega), fun g e e2 => ?_⟩
  rcases hft.sub g e2 with e3 | e3
  · exact h.n2 g e e3
  · have := hlt g e; omega
theorem run_makeMapN (n : Nat) (w : World) : (Instr.makeMap 113 (some (.int .i64 (n : Int)))).run Tryz.prog w = .ok (.map (some w.heap.size)) (w.alloc (.map #[] 0)) := by
  simp [Instr.makeMap, asInt, asIntOf]
def LdPost (w : World) (s : Nat) (kd size slide ag : Int) (fp : Nat → Prop) (l : List Pn) (e : Ending) (w' : World) : Prop := e = .returned (.tuple #[]) ∧ APost w s kd size slide ag fp l w'
set_option maxHeartbeats 8000000 in
set_option maxRecDepth 100000 in
theorem Load_any {w : World} {s : Nat} {kd size slide ag : Int} {fp : Nat → Prop} {M : List Pn} (h : SA w s kd size slide ag fp M) {v : Value} {l : List Pn} (hl : LSeg 4 Pn.cs w.heap.size w v l) (hv : ∀ g, v.ownBlock = some g → ¬ fp g) (hok : ∀ x ∈ l, PnOk x ∧ (kd = 3 → x.f < x.t)) (hn : l.length ≤ 90000) :
    Calls Tryz.prog 94 #[.pointer (some ⟨s, 0, none⟩), v] w (LdPost w s kd size slide ag fp l) := by
  obtain ⟨m, o, fq, R, h, hf⟩ := h
  obtain ⟨ao, cap, rfl⟩ := hl.shapeOf
  have hmm := @run_makeMap Tryz.prog
  have hmn := run_makeMapN l.length
  obtain ⟨c0, c1, c2, c3, c4, c5⟩ := h.cells
  have cf := fun j => h.box.free j
  have hslt := h.box.lt
  have hne1 : ¬ s = w.heap.size := by omega
  have hne2 : ¬ s = w.heap.size + 1 := by omega
  have HH := hide h
  have HLS := hide hl
  have HV := hide hv
  have HF := hide hf
  have HOK := hide hok
  clear h hl hv hf hok
  go_enter Tryz.func94, Tryz.ntmps94
  go_upto_region 1 with fail
  obtain ⟨W2, hW2⟩ : ∃ W2, W2 = (((w.setCell ⟨s, 4, none⟩ (.map (some w.heap.size))).setCell ⟨s, 5, none⟩ (.map (some (w.heap.size + 1)))).alloc (.map #[] 0)).alloc (.map #[] 0) := ⟨_, rfl⟩
  rw [← hW2]
  have hs0 : ((w.setCell ⟨s, 4, none⟩ (.map (some w.heap.size))).setCell ⟨s, 5, none⟩ (.map (some (w.heap.size + 1)))).heap.size = w.heap.size := by simp
  have hg0 : w.grownBy ((w.setCell ⟨s, 4, none⟩ (.map (some w.heap.size))).setCell ⟨s, 5, none⟩ (.map (some (w.heap.size + 1)))) (some s) := grownBy_trans (grownBy_set _ _ _ _) (grownBy_set _ _ _ _)
  have hst : StAt W2 s w.heap.size (w.heap.size + 1) kd size slide ag (fun i => i = w.heap.size + 1) [] [] := by
    rw [hW2]
    refine fresh_state (BoxT.alloc (t := 117) (BoxT.alloc (t := 117) ?_ _) _) ((made_at _ _ _ hs0.symm).alloc _) (made_at _ _ _ (by simp)) (by omega)
    have := (HH.out.box.set 4 (.map (some w.heap.size))).set 5 (.map (some (w.heap.size + 1)))
    simpa using this
  have hfps : fp s := (HF.out s).2 (.inl rfl)
  have hsz2 : W2.heap.size = w.heap.size + 2 := by rw [hW2]; simp
  have hblk : ∀ i, i < w.heap.size → i ≠ s → W2.heap[i]? = w.heap[i]? := fun i hi hne => by
    rw [hW2, Below.heap_alloc _ _ i (by simp; omega), Below.heap_alloc _ _ i (by rw [hs0]; exact hi)]
    exact hg0.block i hi (fun e => hne (by cases e; rfl))
  have hft : FT fp (FP s w.heap.size (fun i => i = w.heap.size + 1)) w W2 := by
    refine ⟨by rw [hW2]; exact hg0.os, by rw [hW2]; exact hg0.tape, by rw [hW2]; exact hg0.output, by omega, fun i hi hn => hblk i hi (fun e => hn (e ▸ hfps)), fun i hi => ?_⟩
    rcases hi with e | e | e
    · exact .inl (e ▸ hfps)
    · exact .inr (by omega)
    · exact .inr (by omega)
  have hlen : ∀ g, (Value.slice ao l.length cap).ownBlock = some g → l ≠ [] → g < w.heap.size := fun g e hne => by
    obtain ⟨ao', cap', e', _, hc⟩ := HLS.out
    cases e'
    rcases hc with hc | ⟨b, off, rfl, hbl, _⟩
    · exact absurd hc hne
    · cases e; exact hbl
  have hl2 : LSeg 4 Pn.cs W2.heap.size W2 (.slice ao l.length cap) l := by
    by_cases hne : l = []
    · subst hne; exact ⟨ao, cap, rfl, by simp, .inl rfl⟩
    · exact HLS.out.off (fun g e => hblk g (hlen g e hne) (fun e2 => HV.out g e (e2 ▸ hfps))) (by omega)
  have HSO := hide (Sort_any hl2 (by omega))
  have HST := hide hst
  have HFT := hide hft
  have HSZ := hide hsz2
  have hsl : (srt l).length = l.length := srt_len l
  have HPS := hide (srt_perm l)
  have HSO2 : Hid (∀ x ∈ srt l, PnOk x ∧ (kd = 3 → x.f < x.t)) := fun x hx => HOK.out x ((srt_perm l).mem_iff.1 hx)
  clear hst hft hsz2 hblk hlen hl2 hg0 hs0 hW2 hfps c0 c1 c2 c3 c4 c5 cf
  generalize srt l = L at *
  go_wp2_with (first | (go_at_call 98; refine HSO.out.mono ?_; rintro e w3 ⟨u, rfl, o3, b3⟩; have HR3 := hide o3; have B3 := hide b3; obtain ⟨ua, uc, rfl⟩ := o3.shape; clear o3 b3) | fail)
  have HI : Hid (LdI w w3 s w.heap.size (w.heap.size + 1) kd size slide ag fp (fun i => i = w.heap.size + 1) [] [] (.slice ua L.length uc) L) := by
    refine ⟨HST.out.below (fun i hi => B3.out.block i (HST.out.flt i hi)) B3.out.size, HFT.out.trans (FT.of_below B3.out), HR3.out.seg Pn.cs_len (by omega), fun g e e2 => ?_⟩
    have h1 := HR3.out.at g e
    have h2 := HST.out.flt g e2
    omega
  have HLT : Hid (∀ g, (Value.slice ua L.length uc).ownBlock = some g → g < w3.heap.size) := fun g e => by
    obtain ⟨cu, hcu⟩ := HR3.out.has g e
    exact hcu.lt
  clear HST HSO
  go_loopg [19] (L.length + 1) (fun gh iv wr => ∃ (i : Nat) (fq' : Nat → Prop) (M' : List Pn) (R' : List SRow), iv = .int .i64 (i : Int) ∧ i ≤ L.length ∧ L.length + 1 ≤ gh + i ∧ w3.heap.size ≤ wr.heap.size ∧ Hid (LdI w wr s w.heap.size (w.heap.size + 1) kd size slide ag fp fq' M' R' (.slice ua L.length uc) L) ∧ Hid (Comes (sess kd) (jn ag) (L.take i) M'))
  case atStart => exact ⟨0, _, [], [], rfl, by omega, by omega, Nat.le_refl _, HI, (show Comes _ _ _ _ from Comes.refl .nil)⟩
  case round =>
    clear HI
    obtain ⟨i, fq', M', R', rfl, hi, hg, hws, HP, HC⟩ := hrel
    obtain ⟨go, rfl⟩ : ∃ go, gk = go + 1 := ⟨gk - 1, by omega⟩
    by_cases hlt : i < L.length
    · obtain ⟨x, hx⟩ := get_of_lt hlt
      have bt : (i : Int) < (L.length : Int) := by omega
      obtain ⟨nb, no, rfl, nlt, e0, e1, e2, e3⟩ := HP.out.row.pane hx
      have hin := HSO2.out x (List.mem_of_getElem? hx)
      have HTS : Hid (L.take (i + 1) = L.take i ++ [x]) := (show _ = _ by
        have e : L[i] = x := by rw [List.getElem?_eq_getElem hlt] at hx; exact Option.some.inj hx
        rw [List.take_succ_eq_append_getElem hlt, e])
      have hbx := below_box wr (.cells #[.int .i64 x.k, .int .i64 x.f, .int .i64 x.t, .int .i64 x.a] 79)
      have hstt := HP.out.st.below (fun i hi => hbx.block i (HP.out.st.flt i hi)) hbx.size
      have hml : M'.length ≤ 100000 := by
        have h1 := HC.out.1.len
        rw [List.length_take] at h1
        omega
      have HLA := hide (lay_any hstt (k := x.k) (f := x.f) (t := x.t) (c := x.a) hin.1 hin.2 hml)
      have HBX := hide hbx
      obtain ⟨xk, xf, xt, xa⟩ := x
      simp only at e0 e1 e2 e3 HLA HBX
      clear hbx hstt hml hx hin
      go_wp2_with (first | (go_at_call 99; refine HLA.out.mono ?_; rintro e w5 ⟨rfl, fq'', M'', R'', st5, ft5, c5⟩; have HZ5 := hide (Nat.le_trans HBX.out.size ft5.size); have H5 := hide (HP.out.step HBX.out st5 ft5 (fun g e => Nat.lt_of_lt_of_le (HLT.out g e) hws)); have C5 := hide c5; clear st5 ft5 c5) | fail)
      go_roundg go
      case rel =>
        refine ⟨i + 1, fq'', M'', R'', by go_num, by omega, by omega, Nat.le_trans hws HZ5.out, H5, (show Comes _ _ _ _ from ?_)⟩
        rw [HTS.out]
        have h6 := Comes.step (q := [⟨xk, xf, xt, xa⟩]) HC.out C5.out
        exact h6.perm List.perm_append_comm (.refl _)
      case measure => omega
    · obtain rfl : i = L.length := by omega
      have bt : ¬ ((L.length : Nat) : Int) < (L.length : Int) := by omega
      go_wp2_with fail
      go_end0
      refine ⟨rfl, FP s w.heap.size fq', M', ⟨_, _, fq', R', HP.out.st, fun _ => Iff.rfl⟩, HP.out.ft, ?_⟩
      have h6 := HC.out
      rw [List.take_of_length_le (Nat.le_refl _)] at h6
      exact h6.perm HPS.out (.refl _)
end Go.Proofs.YtpcbhcdpegbfjaaGreat
/-
  end: the sessions whose watermark has come are gone.
-/
namespace Go.Proofs.YtpcbhcdpegbfjaaGreat
open Go.RowKit

def endR (mk : Int) (r : SRow) : List Sp := keepO mk r.l
structure EI (w wr : World) (o : Nat) (fq : Nat → Prop) (R D T : List SRow) (mk : Int) (E : List SRow) : Prop where
  rg : RangeAt Tryz.prog 2 wr o (w.heap.size + 1) ((E ++ T).map sEnt) (T.map sEnt)
  om : OM wr o fq (E ++ T)
  ft : FT fq fq w wr
  kb : BoxT 2 wr w.heap.size #[.int .i64 mk]
  all : R.Perm (D ++ T)
  dn : E.map (fun r => (r.k, r.l)) = (D.filter (fun r => !(endR mk r).isEmpty)).map (fun r => (r.k, endR mk r))
theorem OM.others {w1 w2 w3 : World} {o : Nat} {fq : Nat → Prop} {r : SRow} {Q : List SRow} (h : OM w1 o fq (r :: Q)) (hg : w1.grownBy w2 r.v.ownBlock) (ht : MTurn w2 w3 o) (hm : MapAt Tryz.prog 2 w3 o (Q.map sEnt)) : OM w3 o fq Q := by
  have hap := List.pairwise_cons.1 h.apart
  have s2 := hg.size
  refine ⟨hm, fun q hq => ?_, fun q hq => h.fr q (List.mem_cons_of_mem _ hq), hap.2, h.fo, fun i hi => by rw [ht.size]; exact Nat.lt_of_lt_of_le (h.flt i hi) s2⟩
  obtain ⟨q1, q2, q3⟩ := h.rows q (List.mem_cons_of_mem _ hq)
  refine ⟨q1.back (fun g e => ?_), q2, q3⟩
  have hgo : g ≠ o := fun e' => by
    obtain ⟨cu, hcu⟩ := q1.has g e
    obtain ⟨es, ck, hes⟩ := h.op.isMap
    rw [e', hes] at hcu; cases hcu
  rw [ht.other hgo]
  exact hg.block g (q1.lt g e) (fun e' => hap.1 q hq (e'.symm.trans e.symm))
theorem OM.swap {w1 w2 w3 : World} {o : Nat} {fq : Nat → Prop} {r : SRow} {Q : List SRow} (h : OM w1 o fq (r :: Q)) (hg : w1.grownBy w2 r.v.ownBlock) {v' : Value} {l' : List Sp} (ho : OwnL 72 2 Sp.cs 0 w2 v' l') (hl : l' ≠ []) (hin : ∀ g, v'.ownBlock = some g → r.v.ownBlock = some g) (ht : MTurn w2 w3 o) (hm : MapAt Tryz.prog 2 w3 o ((⟨r.k, v', l'⟩ :: Q : List SRow).map sEnt)) : OM w3 o fq (⟨r.k, v', l'⟩ :: Q) := by
  have hap := List.pairwise_cons.1 h.apart
  have s2 := hg.size
  have hkr := h.rows r (List.mem_cons_self ..)
  refine ⟨hm, fun q hq => ?_, fun q hq g e => ?_, List.pairwise_cons.2 ⟨fun q hq e => ?_, hap.2⟩, h.fo, fun i hi => by rw [ht.size]; exact Nat.lt_of_lt_of_le (h.flt i hi) s2⟩
  · rcases List.mem_cons.1 hq with rfl | hq
    · refine ⟨ho.back (fun g e => ht.other (fun e' => ?_)), hl, hkr.2.2⟩
      obtain ⟨cu, hcu⟩ := hkr.1.has g (hin g e)
      obtain ⟨es, ck, hes⟩ := h.op.isMap
      rw [e', hes] at hcu; cases hcu
    · obtain ⟨q1, q2, q3⟩ := h.rows q (List.mem_cons_of_mem _ hq)
      refine ⟨q1.back (fun g e => ?_), q2, q3⟩
      have hgo : g ≠ o := fun e' => by
        obtain ⟨cu, hcu⟩ := q1.has g e
        obtain ⟨es, ck, hes⟩ := h.op.isMap
        rw [e', hes] at hcu; cases hcu
      rw [ht.other hgo]
      exact hg.block g (q1.lt g e) (fun e' => hap.1 q hq (e'.symm.trans e.symm))
  · rcases List.mem_cons.1 hq with rfl | hq
    · exact h.fr r (List.mem_cons_self ..) g (hin g e)
    · exact h.fr q (List.mem_cons_of_mem _ hq) g e
  · simp only at e
    rcases ho.2 with ⟨_, q4⟩ | ⟨g, c, cu, q4, _⟩
    · exact hl (List.length_eq_zero_iff.1 q4)
    · have hg' : v'.ownBlock = some g := by rw [q4]; rfl
      rw [hg'] at e
      exact hap.1 q hq ((hin g hg').trans e)
def EPost (w : World) (o : Nat) (fq : Nat → Prop) (R : List SRow) (mk : Int) (e : Ending) (w' : World) : Prop := e = .returned (.tuple #[]) ∧ ∃ E D, OM w' o fq E ∧ FT fq fq w w' ∧ R.Perm D ∧ E.map (fun r => (r.k, r.l)) = (D.filter (fun r => !(endR mk r).isEmpty)).map (fun r => (r.k, endR mk r))
set_option maxHeartbeats 8000000 in
set_option maxRecDepth 100000 in
theorem end_any {w : World} {o : Nat} {fq : Nat → Prop} {R : List SRow} (h : OM w o fq R) (mk : Int) (hn : ∀ r ∈ R, r.l.length ≤ 100000) :
    Calls Tryz.prog 105 #[.map (some o), .int .i64 mk] w (EPost w o fq R mk) := by
  have hb1 := below_box w (.cells #[.int .i64 mk] 2)
  have HOM := hide (h.below hb1)
  have HMP := hide (h.below hb1).op
  have hmf : ∀ (fn : Fn) (first cap : Array Value) (w : World), (Instr.makeFunc fn first cap).run Tryz.prog w = .ok (.func fn first cap) w := fun _ _ _ _ => rfl
  have HH := hide h
  have HNL := hide hn
  have HB1 := hide hb1
  clear h hb1 hn
  go_enter Tryz.func105, Tryz.ntmps105
  go_wp2_with (first | (at_range; refine wp_rangeM _ rfl _ 115 rfl 74 Tryz.underlying115 rfl HMP.out ?_; intro w0 hrg0 hg0 hs0) | fail)
  try go_frame
  rw [show (w.alloc (.cells #[.int .i64 mk] 2)).heap.size = w.heap.size + 1 by simp]
  have H0 : Hid (EI w w0 o fq R [] R mk []) := by
    have hb0 : Below (w.alloc (.cells #[.int .i64 mk] 2)).heap.size (w.alloc (.cells #[.int .i64 mk] 2)) w0 := (Below.refl _ _).grown hg0 (Nat.le_refl _) (fun k e => by cases e)
    have e1 : (w.alloc (.cells #[.int .i64 mk] 2)).heap.size = w.heap.size + 1 := by simp
    rw [e1] at hrg0
    exact ⟨hrg0, HOM.out.below hb0, (FT.of_below HB1.out).trans (FT.of_below hb0), BoxT.below (t := 2) (BoxT.new _ _ _) hb0, .refl _, rfl⟩
  clear hrg0 hg0 hs0 HOM HMP
  go_loopg [4, 5, 8] (R.length + 1) (fun gh _ _ _ wr => ∃ D T E, T.length + 1 ≤ gh ∧ Hid (EI w wr o fq R D T mk E))
  case atStart => exact ⟨[], R, [], Nat.le_refl _, H0⟩
  case round =>
    obtain ⟨D, T, E, hgh, HI⟩ := hrel
    obtain ⟨go, rfl⟩ : ∃ go, gk = go + 1 := ⟨gk - 1, by omega⟩
    have hrg := hide HI.out.rg
    go_wp2_with (first | (at_next; refine wp_nextM sEnt _ rfl _ rfl rfl hrg.out ?_ ?_) | fail)
    · intro hl0
      subst hl0
      go_wp2_with fail
      go_end0
      refine ⟨rfl, E, D, ?_, HI.out.ft, ?_, HI.out.dn⟩
      · have := HI.out.om; rwa [List.append_nil] at this
      · have := HI.out.all; rwa [List.append_nil] at this
    · intro r T' w1 hp hr1 hg1 hs1 hen
      have hl2 := hp.length_eq
      simp only [List.length_cons] at hl2
      have hom0 := (HI.out.om.back (w' := w1) (fun i hi => hg1.block i (HI.out.om.flt i hi) (fun e => by cases e; have := HH.out.flt _ hi; omega)) hg1.size).perm (List.Perm.trans (List.Perm.append_left E hp) List.perm_middle)
      have HOM := hide hom0
      have HK1 : Hid (BoxT 2 w1 w.heap.size #[.int .i64 mk]) := HI.out.kb.grown hg1 (by omega)
      have hro := (hom0.rows r (List.mem_cons_self ..))
      have hmr : r ∈ R := HI.out.all.mem_iff.2 (List.mem_append_right _ (hp.mem_iff.2 (List.mem_cons_self ..)))
      have hnr := HNL.out r hmr
      have hblt : ∀ g, r.v.ownBlock = some g → g < w.heap.size := fun g e => HH.out.flt g (hom0.fr r (List.mem_cons_self ..) g e)
      have HDE := hide (delete_any HK1.out hro.1 (fun e => by have := hblt _ e; omega) (by omega))
      have HFT : Hid (FT fq fq w w1) := ⟨hg1.os.trans HI.out.ft.os, hg1.tape.trans HI.out.ft.tape, hg1.output.trans HI.out.ft.output, Nat.le_trans HI.out.ft.size hg1.size, fun i hi hn => (hg1.block i (Nat.lt_of_lt_of_le hi HI.out.ft.size) (fun e => by cases e; omega)).trans (HI.out.ft.block i hi hn), fun i hi => .inl hi⟩
      have HR1 : Hid (RangeAt Tryz.prog 2 w1 o (w.heap.size + 1) (sEnt r :: (E ++ T').map sEnt) (T'.map sEnt)) := hr1.perm (by have h9 := (List.Perm.trans (List.Perm.append_left E hp) List.perm_middle).map sEnt; rw [List.map_append, List.map_cons] at h9; exact h9) (.refl _)
      have HKE := hide (keyI hro.2.2)
      have HUN : Hid (∀ p ∈ T'.map sEnt, p.1 ≠ (.int .i64 r.k : Value)) := fun p hp' e => by
        have h1 := hom0.op.nodup
        rw [List.map_cons, List.map_cons, List.nodup_cons] at h1
        refine h1.1 ?_
        obtain ⟨q, hq, rfl⟩ := List.mem_map.1 hp'
        refine List.mem_map.2 ⟨sEnt q, List.mem_map.2 ⟨q, List.mem_append_right _ hq, rfl⟩, e⟩
      have HP := hide hp
      have HBL := hide hblt
      have hsh := hro.1.shape
      have hrb := HI.out.rg.lt
      clear hom0 hro hmr hnr hblt hp hr1 hg1 hs1 hrg
      obtain ⟨k, v, l⟩ := r
      simp only [sEnt] at hen
      unfold sEnt
      simp only at *
      obtain ⟨va, vc, rfl⟩ := hsh
      have HR2 : Hid (∀ w2, w1.grownBy w2 (Value.slice va l.length vc).ownBlock → RangeAt Tryz.prog 2 w2 o (w.heap.size + 1) (sEnt ⟨k, .slice va l.length vc, l⟩ :: (E ++ T').map sEnt) (T'.map sEnt)) := fun w2 g2 => HR1.out.back (g2.block _ HR1.out.mapAt.lt (fun e => by
        obtain ⟨cu, hcu⟩ := (HOM.out.rows _ (List.mem_cons_self ..)).1.has _ e.symm
        obtain ⟨es, ck, hes⟩ := HR1.out.mapAt.isMap
        rw [hes] at hcu; cases hcu)) (g2.block _ HR1.out.lt (fun e => by have := HBL.out _ e.symm; omega))
      have HFIN : Hid (∀ (w2 w3 : World) (E' : List SRow), w1.grownBy w2 (Value.slice va l.length vc).ownBlock → MTurn w2 w3 o → RangeAt Tryz.prog 2 w3 o (w.heap.size + 1) ((E' ++ T').map sEnt) (T'.map sEnt) → OM w3 o fq (E' ++ T') → E'.map (fun r => (r.k, r.l)) = ((D ++ [(⟨k, .slice va l.length vc, l⟩ : SRow)]).filter (fun r => !(endR mk r).isEmpty)).map (fun r => (r.k, endR mk r)) → EI w w3 o fq R (D ++ [⟨k, .slice va l.length vc, l⟩]) T' mk E') := fun w2 w3 E' g2 t3 rg3 om3 hd => by
        have hKo : w.heap.size ≠ o := fun e => by have := HH.out.flt o HH.out.fo; omega
        have s2 := g2.size
        refine ⟨rg3, om3, ⟨t3.grown.os.trans (g2.os.trans HFT.out.os), t3.grown.tape.trans (g2.tape.trans HFT.out.tape), t3.grown.output.trans (g2.output.trans HFT.out.output), by have := HFT.out.size; rw [t3.size]; omega, fun i hi hn => ?_, fun i hi => .inl hi⟩, ?_, ?_, hd⟩
        · rw [t3.other (show i ≠ o from fun e => hn (e ▸ HH.out.fo)), g2.block i (Nat.lt_of_lt_of_le hi HFT.out.size) (fun e => hn (HOM.out.fr _ (List.mem_cons_self ..) i e.symm))]
          exact HFT.out.block i hi hn
        · have h1 : BoxT 2 w2 w.heap.size #[.int .i64 mk] := by
            have h2 := g2.block w.heap.size HK1.out.lt (fun e => by have := HBL.out _ e.symm; omega)
            have h3 := HK1.out
            unfold BoxT at *
            rw [h2]; exact h3
          have h4 := t3.other hKo
          unfold BoxT at *
          rw [h4]; exact h1
        · refine HI.out.all.trans ?_
          rw [List.append_assoc]
          exact List.Perm.append_left D HP.out
      have HDN := hide HI.out.dn
      by_cases hE : keepO mk l = []
      · have HDE2 := HDE
        rw [hE] at HDE2
        clear HDE
        have HDE := HDE2
        clear HDE2
        go_wp2_with (first | (go_at_call 115; refine HDE.out.mono ?_; rintro e w2 ⟨v2, rfl, o2, g2, k2⟩; obtain ⟨ua, uc, rfl⟩ := o2.shape; have O2 := hide o2; have G2 := hide g2; have K2 := hide k2; have R2 := hide (HR2.out w2 g2); obtain ⟨w3, hrun3, rg3, mt3⟩ := R2.out.drop_hit Tryz.lawI Tryz.underlying115 HKE.out (R := (E ++ T').map sEnt) (.refl _) HUN.out 0; have RG3 := hide rg3; have MT3 := hide mt3; clear rg3 mt3; clear o2 g2 k2) | fail)
        go_roundg go
        case rel =>
          have hd : E.map (fun r => (r.k, r.l)) = ((D ++ [(⟨k, .slice va l.length vc, l⟩ : SRow)]).filter (fun r => !(endR mk r).isEmpty)).map (fun r => (r.k, endR mk r)) := by
            rw [HDN.out, List.filter_append]
            have : endR mk ⟨k, .slice va l.length vc, l⟩ = [] := hE
            simp [this]
          exact ⟨_, T', E, by omega, hide (HFIN.out w2 w3 E G2.out MT3.out RG3.out (HOM.out.others G2.out MT3.out RG3.out.mapAt) hd)⟩
        case measure => omega
      · have hpos : ¬ ((keepO mk l).length : Int) = 0 := by have : (keepO mk l).length ≠ 0 := fun e => hE (List.length_eq_zero_iff.1 e); omega
        have HKN := hide hE
        generalize hKL : keepO mk l = KL at *
        have HKL := hide hKL
        clear hKL hE
        go_wp2_with (first | (go_at_call 115; refine HDE.out.mono ?_; rintro e w2 ⟨v2, rfl, o2, g2, k2⟩; obtain ⟨ua, uc, rfl⟩ := o2.shape; have O2 := hide o2; have G2 := hide g2; have K2 := hide k2; have R2 := hide (HR2.out w2 g2); obtain ⟨w3, hrun3, rg3, mt3⟩ := R2.out.store_old (v := .slice ua KL.length uc) Tryz.lawI Tryz.underlying115 HKE.out (R := (E ++ T').map sEnt) (.refl _) HUN.out; have RG3 := hide rg3; have MT3 := hide mt3; clear rg3 mt3; clear o2 g2 k2) | (at_mapUpdate; refine wp_putM rfl _ _ _ 115 rfl _ _ _ rfl rfl rfl hrun3 ?_) | fail)
        go_roundg go
        case rel =>
          have hpm : (⟨k, .slice ua KL.length uc, KL⟩ :: (E ++ T') : List SRow).Perm ((E ++ [⟨k, .slice ua KL.length uc, KL⟩]) ++ T') := by
            rw [List.append_assoc]
            exact List.perm_middle.symm
          have hd : (E ++ [(⟨k, .slice ua KL.length uc, KL⟩ : SRow)]).map (fun r => (r.k, r.l)) = ((D ++ [(⟨k, .slice va l.length vc, l⟩ : SRow)]).filter (fun r => !(endR mk r).isEmpty)).map (fun r => (r.k, endR mk r)) := by
            rw [List.map_append, HDN.out, List.filter_append, List.map_append]
            have h1 : endR mk ⟨k, .slice va l.length vc, l⟩ = KL := HKL.out
            have h2 : KL.isEmpty = false := by cases hk : KL with
              | nil => exact absurd hk HKN.out
              | cons _ _ => rfl
            simp [h1, h2]
          have hrg5 : RangeAt Tryz.prog 2 w3 o (w.heap.size + 1) (List.map sEnt ((E ++ [(⟨k, .slice ua KL.length uc, KL⟩ : SRow)]) ++ T')) (T'.map sEnt) := RG3.out.perm (by have h9 := hpm.map sEnt; rw [List.map_cons] at h9; exact h9) (.refl _)
          exact ⟨_, T', _, by omega, hide (HFIN.out w2 w3 _ G2.out MT3.out hrg5 ((HOM.out.swap G2.out O2.out HKN.out K2.out MT3.out RG3.out.mapAt).perm hpm) hd)⟩
        case measure => omega
end Go.Proofs.YtpcbhcdpegbfjaaGreat
/-
  Fire.
-/
namespace Go.Proofs.YtpcbhcdpegbfjaaGreat
open Go.RowKit

def ovr (mk : Int) (p : Pn) : Bool := decide (wrap64 (p.t - 1) ≤ mk)
def rcOf (p : Pn) : Rc := ⟨p.k, wrap64 (p.t - 1), p.a⟩
def outF (mk : Int) (l : List Pn) : List Rc := (l.filter (ovr mk)).map rcOf
def leftF (mk : Int) (l : List Pn) : List Pn := l.filter fun p => !ovr mk p
theorem out_step {mk : Int} {l : List Pn} {i : Nat} {p : Pn} (h : l[i]? = some p) : outF mk (l.take (i + 1)) = if ovr mk p then outF mk (l.take i) ++ [rcOf p] else outF mk (l.take i) := by
  have hlt := lt_of_get h
  have e : l[i] = p := by rw [List.getElem?_eq_getElem hlt] at h; exact Option.some.inj h
  rw [List.take_succ_eq_append_getElem hlt, e]
  unfold outF
  rw [List.filter_append]
  cases hb : ovr mk p <;> simp [hb]
theorem left_step {mk : Int} {l : List Pn} {i : Nat} {p : Pn} (h : l[i]? = some p) : leftF mk (l.take (i + 1)) = if ovr mk p then leftF mk (l.take i) else leftF mk (l.take i) ++ [p] := by
  have hlt := lt_of_get h
  have e : l[i] = p := by rw [List.getElem?_eq_getElem hlt] at h; exact Option.some.inj h
  rw [List.take_succ_eq_append_getElem hlt, e]
  unfold leftF
  rw [List.filter_append]
  cases hb : ovr mk p <;> simp [hb]
theorem out_len (mk : Int) (l : List Pn) : (outF mk l).length ≤ l.length := by
  unfold outF; rw [List.length_map]; exact List.length_filter_le ..
theorem left_len (mk : Int) (l : List Pn) : (leftF mk l).length ≤ l.length := List.length_filter_le ..
theorem take_len {α : Type} (l : List α) (n : Nat) : (l.take n).length ≤ l.length := by rw [List.length_take]; omega
theorem new3 (W : World) {n : Nat} (hn : n = W.heap.size) (x : Rc) (j : Nat) (u : Value) (hu : (Rc.cs x)[j]? = some u) : (W.alloc (.cells #[.int .i64 x.k, .int .i64 x.t, .int .i64 x.v] 38)).cell? ((⟨n, 0, none⟩ : Addr).add j) = some u := by
  have hb : BoxT 38 _ n _ := BoxT.new_at (t := 38) (w := W) (cs := #[.int .i64 x.k, .int .i64 x.t, .int .i64 x.v]) hn
  rw [add_plain2, hb.cellAt, Nat.zero_add]
  have hl := lt_of_get hu
  rw [Rc.cs_len] at hl
  match j, hu with
  | 0, hu | 1, hu | 2, hu => simp [Rc.cs] at hu; subst hu; rfl
theorem OwnL.other {α β : Type} {t t' sz sz' : Nat} {cs : α → List Value} {cs' : β → List Value} {base base' : Nat} {w w' : World} {v v' : Value} {xs : List α} {ys : List β} (h : OwnL t sz cs base w v xs) (h' : OwnL t' sz' cs' base' w v' ys) (hg : w.grownBy w' v'.ownBlock) (ht : t ≠ t') : OwnL t sz cs base w' v xs := by
  refine h.back (fun g e => hg.block g (h.lt g e) (fun e' => ?_))
  obtain ⟨c1, h1⟩ := h.has g e
  obtain ⟨c2, h2⟩ := h'.has g e'.symm
  rw [h1] at h2
  simp at h2
  exact ht h2.2
set_option maxHeartbeats 4000000 in
set_option maxRecDepth 100000 in
theorem Fire_any {w : World} {v : Value} {l : List Pn} (hl : LSeg 4 Pn.cs w.heap.size w v l) (hn : l.length ≤ 100000) (mk : Int) : Calls Tryz.prog 106 #[v, .int .i64 mk] w fun e w' => ∃ u1 u2, e = .returned (.tuple #[u1, u2]) ∧ OwnL 38 3 Rc.cs w.heap.size w' u1 (outF mk (srt l)) ∧ OwnL 79 4 Pn.cs w.heap.size w' u2 (leftF mk (srt l)) ∧ Below w.heap.size w w' := by
  have HS1 := hide (Sort_any hl (by omega))
  obtain ⟨ao, cap, rfl⟩ := hl.shapeOf
  have hsl : (srt l).length ≤ 100000 := by rw [srt_len]; exact hn
  generalize srt l = m at *
  clear hl hn
  go_enter Tryz.func106, Tryz.ntmps106
  go_wp2_with (go_at_call 98; refine HS1.out.mono ?_; rintro e w1 ⟨u, rfl, o1, b1⟩; obtain ⟨ua, uc, rfl⟩ := (o1.seg Pn.cs_len (by omega)).shapeOf; have O1 := hide (o1.seg Pn.cs_len (by omega)); have B1 := hide b1; clear o1 b1)
  clear HS1
  go_loopg [6, 7, 9, 10, 14] (m.length + 1) (fun gh ov lv _ _ iv wr => ∃ i : Nat, iv = .int .i64 (i : Int) ∧ i ≤ m.length ∧ m.length + 1 ≤ gh + i ∧ Hid (OwnL 38 3 Rc.cs w1.heap.size wr ov (outF mk (m.take i))) ∧ Hid (OwnL 79 4 Pn.cs w1.heap.size wr lv (leftF mk (m.take i))) ∧ Hid (Below w1.heap.size w1 wr))
  case atStart => exact ⟨0, rfl, by omega, by omega, OwnL.nil _ _ _ _ _, OwnL.nil _ _ _ _ _, Below.refl _ _⟩
  case round =>
    obtain ⟨i, rfl, hi, hg, GO, GL, GB⟩ := hrel
    obtain ⟨go, rfl⟩ : ∃ go, gk = go + 1 := ⟨gk - 1, by omega⟩
    by_cases hlt : i < m.length
    · obtain ⟨x, hx⟩ := get_of_lt hlt
      have bt : (i : Int) < (m.length : Int) := by omega
      obtain ⟨nb, no, rfl, nlt, e0, e1, e2, e3⟩ := (O1.out.below GB.out).pane hx
      have HOS := hide (out_step (mk := mk) hx)
      have HLS := hide (left_step (mk := mk) hx)
      have HOL : Hid ((outF mk (m.take i)).length ≤ 1000000) := (show _ ≤ _ by have h1 := out_len mk (m.take i); have h2 := take_len m i; omega)
      have HLL : Hid ((leftF mk (m.take i)).length ≤ 1000000) := (show _ ≤ _ by have h1 := left_len mk (m.take i); have h2 := take_len m i; omega)
      generalize outF mk (m.take i) = oi at *
      generalize leftF mk (m.take i) = li at *
      obtain ⟨oa, oc, rfl⟩ := GO.out.shape
      obtain ⟨la, lc, rfl⟩ := GL.out.shape
      clear hx
      obtain ⟨xk, xf, xt, xa⟩ := x
      simp only at e0 e1 e2 e3
      have HOV : Hid (ovr mk ⟨xk, xf, xt, xa⟩ = decide (wrap64 (xt - 1) ≤ mk)) := (show _ = _ from rfl)
      have HRC : Hid (rcOf ⟨xk, xf, xt, xa⟩ = ⟨xk, wrap64 (xt - 1), xa⟩) := (show _ = _ from rfl)
      rw [HOV.out] at HOS HLS
      rw [HRC.out] at HOS
      clear HOV HRC
      have hbx := below_box2 wr (.cells #[.int .i64 xk, .int .i64 xf, .int .i64 xt, .int .i64 xa] 79)
      by_cases ho : wrap64 (xt - 1) ≤ mk
      · rw [decide_eq_true ho, if_pos rfl] at HOS HLS
        have HB3 := hide (hbx (.cells #[.int .i64 xk, .int .i64 (wrap64 (xt - 1)), .int .i64 xa] 38))
        have HO3 := hide (GO.out.below HB3.out)
        have HL3 := hide (GL.out.below HB3.out)
        have HS3 := hide (GB.out.trans (HB3.out.mono GB.out.size))
        have HSZ := hide HS3.out.size
        clear hbx
        go_wp2_with (at_builtin; refine app_L Tryz.infoRc Tryz.underlying43 rfl (by decide) (by decide) Rc.cs_len Rc.cs_one rfl _ _ rfl w1.heap.size _ oi rfl HO3.out _ _ (⟨xk, wrap64 (xt - 1), xa⟩ : Rc) rfl (new3 (wr.alloc _) (by simp) ⟨xk, wrap64 (xt - 1), xa⟩) HOL.out HSZ.out ?_; intro v5 w5 h5 g5 k5)
        go_roundg go
        case rel => exact ⟨i + 1, by go_num, by omega, by omega, (show OwnL _ _ _ _ _ _ _ by rw [HOS.out]; exact h5), (show OwnL _ _ _ _ _ _ _ by rw [HLS.out]; exact HL3.out.other HO3.out g5 (by decide)), HS3.out.grown g5 HSZ.out (fun k e => GO.out.at k e)⟩
        case measure => omega
      · rw [decide_eq_false ho, if_neg (by decide)] at HOS HLS
        have HB3 := hide (hbx (.cells #[.int .i64 xk, .int .i64 xf, .int .i64 xt, .int .i64 xa] 79))
        have HO3 := hide (GO.out.below HB3.out)
        have HL3 := hide (GL.out.below HB3.out)
        have HS3 := hide (GB.out.trans (HB3.out.mono GB.out.size))
        have HSZ := hide HS3.out.size
        clear hbx
        go_wp2_with (at_builtin; refine app_L Tryz.infoPn Tryz.underlying47 rfl (by decide) (by decide) Pn.cs_len Pn.cs_one rfl _ _ rfl w1.heap.size _ li rfl HL3.out _ _ (⟨xk, xf, xt, xa⟩ : Pn) rfl (new4 (wr.alloc _) (by simp) ⟨xk, xf, xt, xa⟩) HLL.out HSZ.out ?_; intro v5 w5 h5 g5 k5)
        go_roundg go
        case rel => exact ⟨i + 1, by go_num, by omega, by omega, (show OwnL _ _ _ _ _ _ _ by rw [HOS.out]; exact HO3.out.other HL3.out g5 (by decide)), (show OwnL _ _ _ _ _ _ _ by rw [HLS.out]; exact h5), HS3.out.grown g5 HSZ.out (fun k e => GL.out.at k e)⟩
        case measure => omega
    · have bt : ¬ (i : Int) < (m.length : Int) := by omega
      have HT : Hid (m.take i = m) := (show _ = _ from List.take_of_length_le (by omega))
      rw [HT.out] at GO GL
      have hbb := B1.out.trans (GB.out.mono B1.out.size)
      have HBB := hide hbb
      clear hbb
      obtain ⟨oa, oc, rfl⟩ := GO.out.shape
      obtain ⟨la, lc, rfl⟩ := GL.out.shape
      go_wp2_with fail
      exact bodyPost_ret (v := .tuple #[.slice oa (outF mk m).length oc, .slice la (leftF mk m).length lc]) (by simp [results, Tryz.results106, go_sem]; try rfl) rfl ⟨_, _, rfl, GO.out.mono B1.out.size, GL.out.mono B1.out.size, HBB.out⟩
end Go.Proofs.YtpcbhcdpegbfjaaGreat
/-
  Fire, the pure side: what is left of panes and sessions when a watermark has come.
-/
namespace Go.Proofs.YtpcbhcdpegbfjaaGreat
open Go.RowKit

theorem ovr_eq (mk : Int) (x : Pn) : ovr mk x = ovm mk ⟨x.f, x.t⟩ := rfl
theorem end_inv {kd : Int} {M : List Pn} {R D E : List SRow} {mk : Int} (h : Inv kd M R) (hp : R.Perm D) (he : E.map (fun r => (r.k, r.l)) = (D.filter (fun r => !(endR mk r).isEmpty)).map (fun r => (r.k, endR mk r))) : Inv kd (leftF mk M) E := by
  have fw : ∀ r ∈ E, ∃ q ∈ R, q.k = r.k ∧ r.l = keepO mk q.l := fun r hr => by
    have h1 : (r.k, r.l) ∈ E.map (fun r => (r.k, r.l)) := List.mem_map.2 ⟨r, hr, rfl⟩
    rw [he] at h1
    obtain ⟨q, hq, e⟩ := List.mem_map.1 h1
    simp only [Prod.mk.injEq] at e
    exact ⟨q, hp.mem_iff.2 (List.mem_filter.1 hq).1, e.1, e.2.symm⟩
  have bw : ∀ q ∈ R, ∀ sp ∈ keepO mk q.l, ∃ r ∈ E, r.k = q.k ∧ sp ∈ r.l := fun q hq sp hs => by
    have h2 : (!(endR mk q).isEmpty) = true := by
      cases hk : endR mk q with
      | nil => rw [show keepO mk q.l = endR mk q from rfl, hk] at hs; cases hs
      | cons _ _ => rfl
    have h1 : (q.k, endR mk q) ∈ (D.filter (fun r => !(endR mk r).isEmpty)).map (fun r => (r.k, endR mk r)) := List.mem_map.2 ⟨q, List.mem_filter.2 ⟨hp.mem_iff.1 hq, h2⟩, rfl⟩
    rw [← he] at h1
    obtain ⟨r, hr, e⟩ := List.mem_map.1 h1
    simp only [Prod.mk.injEq] at e
    exact ⟨r, hr, e.1, by rw [e.2]; exact hs⟩
  refine ⟨fun hk => ?_, fun hk x hx hlt => ?_, fun r hr sp hsp => ?_, fun r hr => ?_⟩
  · have hR := h.none hk
    cases E with
    | nil => rfl
    | cons r T =>
      obtain ⟨q, hq, _⟩ := fw r (List.mem_cons_self ..)
      rw [hR] at hq; cases hq
  · obtain ⟨h1, h2⟩ := List.mem_filter.1 hx
    obtain ⟨q, hq, e1, e2⟩ := h.up hk x h1 hlt
    rw [ovr_eq] at h2
    obtain ⟨r, hr, e3, e4⟩ := bw q hq _ (List.mem_filter.2 ⟨e2, h2⟩)
    exact ⟨r, hr, e3.trans e1, e4⟩
  · obtain ⟨q, hq, e1, e2⟩ := fw r hr
    rw [e2] at hsp
    obtain ⟨h1, h2⟩ := List.mem_filter.1 hsp
    obtain ⟨h3, x, h4, h5, h6, h7⟩ := h.dn q hq sp h1
    refine ⟨h3, x, List.mem_filter.2 ⟨h4, ?_⟩, h5.trans e1, h6, h7⟩
    rw [ovr_eq, h6, h7]; exact h2
  · obtain ⟨q, hq, _, e2⟩ := fw r hr
    rw [e2]
    exact (h.rise q hq).sublist List.filter_sublist
theorem due_left (mk : Int) (M : List Pn) : M.Perm (M.filter (ovr mk) ++ leftF mk M) := (List.filter_append_perm (ovr mk) M).symm
end Go.Proofs.YtpcbhcdpegbfjaaGreat
/-
  State.Fire, walked.
-/
namespace Go.Proofs.YtpcbhcdpegbfjaaGreat
open Go.RowKit

structure FI (w wr : World) (s m o : Nat) (kd size slide ag : Int) (fq : Nat → Prop) (R : List SRow) (L : List Pn) (mk : Int) (u : Value) (c : List Pn) : Prop where
  box : BoxT 117 wr s #[.int .i64 kd, .int .i64 size, .int .i64 slide, .int .i64 ag, .map (some m), .map (some o)]
  mp : MapAt Tryz.prog 150 wr m (L.map pEnt)
  om : OM wr o fq R
  ft : FT (FP s m fq) (FP s m fq) w wr
  kb : BoxT 2 wr w.heap.size #[.int .i64 mk]
  row : OwnL 79 4 Pn.cs (w.heap.size + 1) wr u c
  ns : ¬ fq s
  nm : ¬ fq m
  lt : ∀ i, FP s m fq i → i < w.heap.size
section
variable {w wr w' : World} {s m o : Nat} {kd size slide ag : Int} {fq : Nat → Prop} {R : List SRow} {L : List Pn} {mk : Int} {u : Value} {c : List Pn}
theorem FI.sm (h : FI w wr s m o kd size slide ag fq R L mk u c) : s ≠ m := fun e => by
  obtain ⟨es, ck, h1⟩ := h.mp.isMap
  have h2 := h.box
  unfold BoxT at h2
  rw [e, h1] at h2
  cases h2
theorem FI.below (h : FI w wr s m o kd size slide ag fq R L mk u c) (hb : Below wr.heap.size wr w') : FI w w' s m o kd size slide ag fq R L mk u c :=
  { h with box := BoxT.below (t := 117) h.box hb, mp := h.mp.back (hb.block _ h.mp.lt), om := h.om.below hb, ft := h.ft.trans (FT.of_below hb), kb := BoxT.below (t := 2) h.kb hb, row := h.row.below hb }
theorem FI.cells (h : FI w wr s m o kd size slide ag fq R L mk u c) : wr.cell? ⟨s, 0, none⟩ = some (.int .i64 kd) ∧ wr.cell? ⟨s, 4, none⟩ = some (.map (some m)) ∧ wr.cell? ⟨s, 5, none⟩ = some (.map (some o)) ∧ wr.cell? ⟨w.heap.size, 0, none⟩ = some (.int .i64 mk) := by
  have h1 := h.box
  have h2 := h.kb
  unfold BoxT at h1 h2
  simp [World.cell?, h1, h2]
theorem FI.turn (h : FI w wr s m o kd size slide ag fq R L mk u c) {fp : Nat → Prop} (hf : FT fp fp wr w') (hs : ∀ i, fp i → FP s m fq i) (hns : ¬ fp s) {R' : List SRow} {L' : List Pn} (hm : MapAt Tryz.prog 150 w' m (L'.map pEnt)) (ho : OM w' o fq R') : FI w w' s m o kd size slide ag fq R' L' mk u c := by
  have hk : ∀ g, g < wr.heap.size → ¬ fp g → w'.heap[g]? = wr.heap[g]? := hf.block
  refine ⟨?_, hm, ho, h.ft.trans ⟨hf.os, hf.tape, hf.output, hf.size, fun i hi hn => hf.block i hi (fun e => hn (hs i e)), fun _ h => .inl h⟩, ?_, h.row.back (fun g e => hk g (h.row.lt g e) (fun e' => by have := h.lt g (hs g e'); have := h.row.at g e; omega)), h.ns, h.nm, h.lt⟩
  · have h1 := h.box
    have h2 := hk s h1.lt hns
    unfold BoxT at *
    rw [h2]; exact h1
  · have h1 := h.kb
    have h2 := hk w.heap.size h1.lt (fun e => by have := h.lt _ (hs _ e); omega)
    unfold BoxT at *
    rw [h2]; exact h1
theorem FI.del (h : FI w wr s m o kd size slide ag fq R L mk u c) {L' : List Pn} (hm : MapAt Tryz.prog 150 w' m (L'.map pEnt)) (ht : MTurn wr w' m) : FI w w' s m o kd size slide ag fq R L' mk u c :=
  h.turn (fp := fun i => i = m) (FT.of_grown ht.grown rfl) (fun _ e => .inr (.inl e)) h.sm hm (h.om.back (fun i hi => ht.other (fun e => h.nm (e ▸ hi))) (by rw [ht.size]; exact Nat.le_refl _))
theorem FI.ended (h : FI w wr s m o kd size slide ag fq R L mk u c) {E : List SRow} (ho : OM w' o fq E) (hf : FT fq fq wr w') : FI w w' s m o kd size slide ag fq E L mk u c :=
  h.turn hf (fun _ e => .inr (.inr e)) h.ns (h.mp.back (hf.block _ h.mp.lt h.nm)) ho
end
theorem rows_len {kd : Int} {M : List Pn} {R : List SRow} (h : Inv kd M R) : ∀ r ∈ R, r.l.length ≤ M.length := fun r hr => by
  obtain ⟨G, N, hG⟩ := GI.ex (M := M) (k := r.k) (gone := r.l) (fun sp hs => by obtain ⟨_, x, h1, h2, h3, h4⟩ := h.dn r hr sp hs; exact ⟨x, h1, h2, h3, h4⟩) (fun sp hs => (h.dn r hr sp hs).1) (h.rise r hr) r.l.length (Nat.le_refl _)
  exact hG.le
theorem runFire (args : Array Value) (W : World) : (callFunc 102 args).run Tryz.prog W = .ok (.enter 102 args) W := by kernel_rfl
def F7 (s m P : Nat) (x : Pn) (w' : World) : Prop := w'.cell? ⟨s, 4, none⟩ = some (.map (some m)) ∧ w'.cell? ⟨P, 0, none⟩ = some (.int .i64 x.k) ∧ w'.cell? ⟨P, 1, none⟩ = some (.int .i64 x.f) ∧ w'.cell? ⟨P, 2, none⟩ = some (.int .i64 x.t) ∧ w'.cell? ⟨P, 3, none⟩ = some (.int .i64 x.a)
def F9 (s o K : Nat) (mk : Int) (w' : World) : Prop := w'.cell? ⟨s, 5, none⟩ = some (.map (some o)) ∧ w'.cell? ⟨K, 0, none⟩ = some (.int .i64 mk)
theorem OwnL.setField {α : Type} {t sz : Nat} {cs : α → List Value} (hcs : ∀ x, (cs x).length = sz) (hs : 0 < sz) {base : Nat} {w : World} {g n cap : Nat} {l : List α} (h : OwnL t sz cs base w (.slice (some ⟨g, 0, none⟩) n cap) l) {i j : Nat} {x y : α} {u : Value} (hx : l[i]? = some x) (hj : j < sz) (hy : cs y = (cs x).set j u) : OwnL t sz cs base (w.setCell ⟨g, i * sz + j, none⟩ u) (.slice (some ⟨g, 0, none⟩) n cap) (l.set i y) := by
  have hi := lt_of_get hx
  rcases h.2 with ⟨e, _⟩ | ⟨g', cap', cur, e, h2, h3, h4, h5, h6, h7⟩
  · cases e
  · cases e
    have hb : BoxT t w g cur := h3
    have hfit : i * sz + sz ≤ cur.size := by
      have h8 : (i + 1) * sz ≤ cap * sz := Nat.mul_le_mul_right _ (by omega)
      rw [Nat.succ_mul] at h8
      omega
    refine ⟨flat_size hcs _, .inr ⟨g, cap, cur.setIfInBounds (i * sz + j) u, by simp, h2, hb.set _ _, by simpa using h4, h5, by rw [Array.size_setIfInBounds]; exact h6, ?_⟩⟩
    apply List.ext_getElem?
    intro q
    rw [List.getElem?_take, List.length_set]
    by_cases hq : q < l.length * sz
    · rw [if_pos hq, Array.getElem?_toList]
      have hq4 : q / sz < l.length := (Nat.div_lt_iff_lt_mul hs).2 hq
      have hm : q % sz < sz := Nat.mod_lt _ hs
      have hdm : q / sz * sz + q % sz = q := by rw [Nat.mul_comm]; exact Nat.div_add_mod q sz
      have old : ∀ z, l[q / sz]? = some z → ∀ v, (cs z)[q % sz]? = some v → cur[q]? = some v := fun z hz v hv => by
        have h8 := flat_get hcs l (q / sz) (q % sz) z v hz hv
        rw [← h7, List.getElem?_take] at h8
        split at h8
        · rw [hdm] at h8; simpa using h8
        · cases h8
      by_cases hqi : q / sz = i
      · have hx' : (l.set i y)[q / sz]? = some y := by rw [hqi, List.getElem?_set_self hi]
        by_cases hqj : q % sz = j
        · have hu : (cs y)[q % sz]? = some u := by rw [hy, hqj, List.getElem?_set_self (by rw [hcs]; exact hj)]
          have h9 := flat_get hcs _ (q / sz) (q % sz) _ u hx' hu
          rw [hdm] at h9
          rw [h9, ← hqi, ← hqj, hdm, Array.getElem?_setIfInBounds_self_of_lt (by rw [hqi] at hdm; omega)]
        · obtain ⟨v, hv⟩ := get_of_lt (show q % sz < (cs x).length by rw [hcs]; exact hm)
          have hu : (cs y)[q % sz]? = some v := by rw [hy, List.getElem?_set_ne (fun e => hqj e.symm)]; exact hv
          have h9 := flat_get hcs _ (q / sz) (q % sz) _ v hx' hu
          rw [hdm] at h9
          rw [h9, Array.getElem?_setIfInBounds_ne (fun e => hqj (by rw [hqi] at hdm; omega))]
          exact old x (by rw [hqi]; exact hx) v hv
      · obtain ⟨z, hz⟩ := get_of_lt hq4
        have hx' : (l.set i y)[q / sz]? = some z := by rw [List.getElem?_set_ne (fun e => hqi e.symm)]; exact hz
        obtain ⟨v, hv⟩ := get_of_lt (show q % sz < (cs z).length by rw [hcs]; exact hm)
        have h9 := flat_get hcs _ (q / sz) (q % sz) _ v hx' hv
        rw [hdm] at h9
        rw [h9, Array.getElem?_setIfInBounds_ne (fun e => hqi (by rw [← e, Nat.mul_comm, Nat.mul_add_div hs, Nat.div_eq_of_lt hj]; rfl))]
        exact old z hz v hv
    · rw [if_neg hq, List.getElem?_eq_none (by rw [flat_size hcs, List.length_set]; omega)]
def eT (r : Rc) : Rc := ⟨r.k, 2199023255552, r.v⟩
def eL (l : List Rc) (i : Nat) : List Rc := (l.take i).map eT ++ l.drop i
theorem eL_len (l : List Rc) (i : Nat) : (eL l i).length = l.length := by unfold eL; simp; omega
theorem eL_get {l : List Rc} {i : Nat} {x : Rc} (h : l[i]? = some x) : (eL l i)[i]? = some x := by
  have hl := lt_of_get h
  unfold eL
  rw [List.getElem?_append_right (by simp; omega)]
  simp [Nat.min_eq_left (Nat.le_of_lt hl)]
  exact h
theorem eL_step {l : List Rc} {i : Nat} {x : Rc} (h : l[i]? = some x) : (eL l i).set i (eT x) = eL l (i + 1) := by
  have hl := lt_of_get h
  have e : l[i] = x := by rw [List.getElem?_eq_getElem hl] at h; exact Option.some.inj h
  unfold eL
  rw [List.set_append_right _ _ (by simp; omega), List.drop_eq_getElem_cons hl, e, List.take_succ_eq_append_getElem hl, e, List.map_append, List.append_assoc]
  simp [Nat.min_eq_left (Nat.le_of_lt hl)]
theorem OwnL.own {t sz : Nat} {cs : Rc → List Value} {base : Nat} {w : World} {v : Value} {l : List Rc} (h : OwnL t sz cs base w v l) (hl : 0 < l.length) : ∃ g cap, v = .slice (some ⟨g, 0, none⟩) l.length cap := by
  rcases h.2 with ⟨_, e⟩ | ⟨g', cap', cur, e, _⟩
  · omega
  · exact ⟨g', cap', e⟩
def FrPost (w : World) (s m o : Nat) (kd size slide ag : Int) (fq : Nat → Prop) (M : List Pn) (mk : Int) (out : List Rc) (e : Ending) (w' : World) : Prop := ∃ u E, e = .returned u ∧ OwnL 38 3 Rc.cs w.heap.size w' u out ∧ StAt w' s m o kd size slide ag fq (leftF mk M) E ∧ FT (FP s m fq) (FP s m fq) w w'
set_option maxHeartbeats 8000000 in
set_option maxRecDepth 100000 in
theorem Fire_win {w : World} {s m o : Nat} {kd size slide ag : Int} {fq : Nat → Prop} {M : List Pn} {R : List SRow} (h : StAt w s m o kd size slide ag fq M R) (mk : Int) (hkd : kd ≠ 0) (hM : M.length ≤ 90000) :
    Calls Tryz.prog 95 #[.pointer (some ⟨s, 0, none⟩), .int .i64 mk] w (FrPost w s m o kd size slide ag fq M mk (outF mk (srt (M.filter (ovr mk))))) := by
  have hb1 := below_box w (.cells #[.int .i64 mk] 2)
  obtain ⟨W1, hW1⟩ : ∃ W1, W1 = w.alloc (.cells #[.int .i64 mk] 2) := ⟨_, rfl⟩
  rw [← hW1] at hb1
  have hs1 : W1.heap.size = w.heap.size + 1 := by rw [hW1]; simp
  have hk1 : BoxT 2 W1 w.heap.size #[.int .i64 mk] := by rw [hW1]; exact BoxT.new _ _ _
  have h1 := h.below (fun i hi => hb1.block i (h.flt i hi)) hb1.size
  have HR := hide (isReduce_any h1.cells.1)
  have HPK := hide (pick_any (⟨m, o, fq, R, h1, fun _ => Iff.rfl⟩ : SA W1 s kd size slide ag (FP s m fq) M) 102 #[.pointer (some ⟨w.heap.size, 0, none⟩)] (ovr mk) runFire (fun w1 hb x => fireC_any (BoxT.below (t := 2) hk1 hb) x) (by omega))
  have HB1 := hide hb1
  have HK1 := hide hk1
  have H1 := hide h1
  have HH := hide h
  have HIV := hide h.inv
  have HOK := hide h.ok
  obtain ⟨rb, hrb⟩ : ∃ rb, rb = (kd == 0) := ⟨_, rfl⟩
  rw [← hrb] at HR
  obtain rfl : rb = false := by rw [hrb]; simpa using hkd
  have HRB := hide hrb
  clear hrb hkd
  obtain ⟨c0, _⟩ := h.cells
  obtain ⟨mk0, _⟩ : W1.cell? ⟨w.heap.size, 0, none⟩ = some (.int .i64 mk) ∧ True := ⟨by rw [hk1.cellAt]; rfl, trivial⟩
  clear h h1 hb1 hk1
  go_enter Tryz.func95, Tryz.ntmps95
  go_upto_region 1 with fail
  rw [← hW1]
  clear hW1
  go_wp2_with (first | (go_at_call 100; refine HR.out.mono ?_; rintro e w1 ⟨rfl, rfl⟩) | (go_at_call 101; refine HPK.out.mono ?_; rintro e w2 ⟨u, c, rfl, o2, p2, b2⟩; have O2 := hide o2; have P2 := hide p2; have B2 := hide b2; obtain ⟨ua, uc, rfl⟩ := o2.shape; clear o2 p2 b2) | fail)
  have hcl : c.length ≤ 90000 := by have h1 := P2.out.length_eq; have h2 := List.length_filter_le (ovr mk) M; omega
  have HI : Hid (FI w w2 s m o kd size slide ag fq R (c.drop 0 ++ leftF mk M) mk (.slice ua c.length uc) c) := by
    have hst := H1.out.below (fun i hi => B2.out.block i (H1.out.flt i hi)) B2.out.size
    have hpm : M.Perm (c.drop 0 ++ leftF mk M) := (due_left mk M).trans (List.Perm.append_right _ P2.out.symm)
    refine ⟨hst.box, hst.mp.perm (hpm.map pEnt), hst.om, (FT.of_below HB1.out).trans (FT.of_below B2.out), BoxT.below (t := 2) HK1.out B2.out, by have := O2.out; rwa [hs1] at this, hst.ns, hst.nm, HH.out.flt⟩
  have HOC : Hid (∀ x ∈ c, PnOk x) := fun x hx => HOK.out x (List.mem_filter.1 (P2.out.mem_iff.1 hx)).1
  clear O2 B2 HPK H1 HK1 HB1 c0 mk0
  go_loopg [22] (c.length + 1) (fun gh iv wr => ∃ (i : Nat), iv = .int .i64 (i : Int) ∧ i ≤ c.length ∧ c.length + 1 ≤ gh + i ∧ Hid (FI w wr s m o kd size slide ag fq R (c.drop i ++ leftF mk M) mk (.slice ua c.length uc) c))
  case atStart => exact ⟨0, rfl, by omega, by omega, HI⟩
  case round =>
    clear HI
    obtain ⟨i, rfl, hi, hg, HF⟩ := hrel
    obtain ⟨go, rfl⟩ : ∃ go, gk = go + 1 := ⟨gk - 1, by omega⟩
    by_cases hlt : i < c.length
    · obtain ⟨x, hx⟩ := get_of_lt hlt
      have bt : (i : Int) < (c.length : Int) := by omega
      obtain ⟨nb, no, rfl, nlt, e0, e1, e2, e3⟩ := (HF.out.row.seg Pn.cs_len (by omega)).pane hx
      have HPX := hide (HOC.out x (List.mem_of_getElem? hx))
      have HDR : Hid (c.drop i = x :: c.drop (i + 1)) := (show _ = _ by rw [List.drop_eq_getElem_cons hlt]; rw [List.getElem?_eq_getElem hlt] at hx; rw [Option.some.inj hx])
      obtain ⟨W2, hW2⟩ : ∃ W2, W2 = wr.alloc (.cells #[.int .i64 x.k, .int .i64 x.f, .int .i64 x.t, .int .i64 x.a] 79) := ⟨_, rfl⟩
      have HBW : Hid (Below wr.heap.size wr W2) := (show Below _ _ _ by rw [hW2]; exact below_box wr _)
      have HPB : Hid (BoxT 79 W2 wr.heap.size #[.int .i64 x.k, .int .i64 x.f, .int .i64 x.t, .int .i64 x.a]) := (show BoxT _ _ _ _ by rw [hW2]; exact BoxT.new _ _ _)
      have HF2 := hide (HF.out.below HBW.out)
      have HKC : Hid (∀ w', Below W2.heap.size W2 w' → F7 s m wr.heap.size x w') := fun w' hb => by
        obtain ⟨p0, p1, p2, p3⟩ := (BoxT.below (t := 79) HPB.out hb).cells4
        exact ⟨(HF2.out.below hb).cells.2.1, p0, p1, p2, p3⟩
      have HPL : Hid (∀ w', Below W2.heap.size W2 w' → Calls Tryz.prog 104 #[x.val] w' fun e w'' => e = .returned (plV x) ∧ Below W2.heap.size W2 w'') := fun w' hb => (placeOf_any w' x).mono (by rintro e w'' ⟨rfl, h2⟩; exact ⟨rfl, hb.trans (h2.mono hb.size)⟩)
      clear hx
      go_upto_region 7 with fail
      rw [← hW2]
      clear hW2
      have B1 : Hid (Below W2.heap.size W2 W2.drew) := (Below.refl _ _).drew
      refine wp_region_M (S := fun w' => F7 s m wr.heap.size x w') (late := []) (by kernel_rfl) (HKC.out _ B1.out) (fun hH => ?_)
      (try simp only [List.size_toArray, List.length_cons, List.length_nil, Nat.zero_add, Nat.reduceAdd, Array.replicate, List.replicate])
      refine tkM 0 ?_ ?_ hH ?_
      rotate_left
      · (intro w' hSw; unfold F7 at hSw; go_simp; try (with_reducible rfl))
      (try simp only [Act.put, List.setIfInBounds_toArray, List.set_cons_zero, List.set_cons_succ])
      refine tkM 1 ?_ ?_ hH ?_
      rotate_left
      · (intro w' hSw; unfold F7 at hSw; go_simp; try (with_reducible rfl))
      (try simp only [Act.put, List.setIfInBounds_toArray, List.set_cons_zero, List.set_cons_succ])
      refine tkM 2 ?_ ?_ hH ?_
      rotate_left
      · (intro w' hSw; unfold F7 at hSw; go_simp; try (with_reducible rfl))
      (try simp only [Act.put, List.setIfInBounds_toArray, List.set_cons_zero, List.set_cons_succ])
      refine tkM 3 ?_ ?_ hH ?_
      rotate_left
      · (intro w' hSw; unfold F7 at hSw; go_simp; try (with_reducible rfl))
      (try simp only [Act.put, List.setIfInBounds_toArray, List.set_cons_zero, List.set_cons_succ])
      refine tkM 4 ?_ ?_ hH ?_
      rotate_left
      · (intro w' hSw; unfold F7 at hSw; go_simp; try (with_reducible rfl))
      (try simp only [Act.put, List.setIfInBounds_toArray, List.set_cons_zero, List.set_cons_succ])
      refine wpAnyM_one (i := 5) (o := ⟨_, _, _, _, _, _⟩) (by kernel_rfl) rfl (fun K hK => ?_)
      go_simp
      go_at_call 104
      refine (HPL.out _ B1.out).mono ?_
      rintro e w3 ⟨rfl, hb⟩
      have B3 := hide hb
      refine hK.out _ _ (HKC.out _ hb) (fun hH => ?_)
      clear hK K hb
      (try simp only [List.setIfInBounds_toArray, List.set_cons_zero, List.set_cons_succ])
      obtain ⟨lk, hlk⟩ := HPX.out.key
      have HF3 := hide (HF2.out.below B3.out)
      obtain ⟨w5, hrun5, hm5, ht5⟩ := HF3.out.mp.drop_hit Tryz.lawPl Tryz.underlying113 hlk (v0 := .int .i64 x.a) (R := (c.drop (i + 1) ++ leftF mk M).map pEnt) (by rw [HDR.out]; exact .refl _) 0
      have HF5 := hide (HF3.out.del hm5 ht5)
      have HS7 : Hid (F7 s m wr.heap.size x w5) := by
        have hne : wr.heap.size ≠ m := fun e => by have := HF.out.mp.lt; omega
        have hp : BoxT 79 w5 wr.heap.size #[.int .i64 x.k, .int .i64 x.f, .int .i64 x.t, .int .i64 x.a] := by have h1 := (BoxT.below (t := 79) HPB.out B3.out); unfold BoxT at *; rw [ht5.other hne]; exact h1
        obtain ⟨p0, p1, p2, p3⟩ := hp.cells4
        exact ⟨HF5.out.cells.2.1, p0, p1, p2, p3⟩
      clear hm5 ht5
      refine wpAnyM_one (i := 6) (o := ⟨_, _, _, _, _, _⟩) (by kernel_rfl) rfl (fun K hK => ?_)
      refine step_del_run rfl _ _ 113 150 rfl _ _ rfl rfl hrun5 ?_
      refine hK.out _ _ HS7.out (fun hH => ?_)
      clear hK K
      (try simp only [List.setIfInBounds_toArray, List.set_cons_zero, List.set_cons_succ])
      refine wpAnyM_done (by kernel_rfl) ?_ _
      go_wp2_with fail
      go_roundg go
      case rel => exact ⟨i + 1, by go_num, by omega, by omega, HF5⟩
      case measure => omega
    · obtain rfl : i = c.length := by omega
      have bt : ¬ ((c.length : Nat) : Int) < (c.length : Int) := by omega
      have HF0 := HF
      rw [List.drop_length, List.nil_append] at HF0
      clear HF
      have HKC : Hid (∀ w', Below wr.heap.size wr w' → F9 s o w.heap.size mk w') := fun w' hb => ⟨(HF0.out.below hb).cells.2.2.1, (HF0.out.below hb).cells.2.2.2⟩
      have HRL : Hid (∀ r ∈ R, r.l.length ≤ 100000) := fun r hr => (show r.l.length ≤ 100000 by have := rows_len HIV.out r hr; omega)
      go_upto_region 9 with fail
      have B1 : Hid (Below wr.heap.size wr wr.drew) := (Below.refl _ _).drew
      have HF1 := hide (HF0.out.below B1.out)
      refine wp_region_M (S := fun w' => F9 s o w.heap.size mk w') (late := []) (by kernel_rfl) (HKC.out _ B1.out) (fun hH => ?_)
      (try simp only [List.size_toArray, List.length_cons, List.length_nil, Nat.zero_add, Nat.reduceAdd, Array.replicate, List.replicate])
      refine tkM 0 ?_ ?_ hH ?_
      rotate_left
      · (intro w' hSw; unfold F9 at hSw; go_simp; try (with_reducible rfl))
      (try simp only [Act.put, List.setIfInBounds_toArray, List.set_cons_zero, List.set_cons_succ])
      refine tkM 1 ?_ ?_ hH ?_
      rotate_left
      · (intro w' hSw; unfold F9 at hSw; go_simp; try (with_reducible rfl))
      (try simp only [Act.put, List.setIfInBounds_toArray, List.set_cons_zero, List.set_cons_succ])
      refine tkM 2 ?_ ?_ hH ?_
      rotate_left
      · (intro w' hSw; unfold F9 at hSw; go_simp; try (with_reducible rfl))
      (try simp only [Act.put, List.setIfInBounds_toArray, List.set_cons_zero, List.set_cons_succ])
      refine tkM 3 ?_ ?_ hH ?_
      rotate_left
      · (intro w' hSw; unfold F9 at hSw; go_simp; try (with_reducible rfl))
      (try simp only [Act.put, List.setIfInBounds_toArray, List.set_cons_zero, List.set_cons_succ])
      refine tkM 4 ?_ ?_ hH ?_
      rotate_left
      · (intro w' hSw; unfold F9 at hSw; go_simp; try (with_reducible rfl))
      (try simp only [Act.put, List.setIfInBounds_toArray, List.set_cons_zero, List.set_cons_succ])
      refine wpAnyM_one (i := 5) (o := ⟨_, _, _, _, _, _⟩) (by kernel_rfl) rfl (fun K hK => ?_)
      go_simp
      go_at_call 105
      refine (end_any HF1.out.om mk HRL.out).mono ?_
      rintro e w3 ⟨rfl, E, D, om3, ft3, pm3, e3⟩
      have HF3 := hide (HF1.out.ended om3 ft3)
      have HI3 := hide (end_inv HIV.out pm3 e3)
      clear om3 ft3 pm3 e3
      refine hK.out _ _ ⟨HF3.out.cells.2.2.1, HF3.out.cells.2.2.2⟩ (fun hH => ?_)
      clear hK K
      (try simp only [List.setIfInBounds_toArray, List.set_cons_zero, List.set_cons_succ])
      refine wpAnyM_done (by kernel_rfl) ?_ _
      have HSG := hide (HF3.out.row.seg Pn.cs_len (by omega))
      have HWF := hide (Fire_any HSG.out (by omega) mk)
      have hk3 := HF3.out.cells.2.2.2
      have HSR : Hid (srt c = srt (M.filter (ovr mk))) := srt_eq P2.out
      go_wp2_with (first | (go_at_call 106; refine HWF.out.mono ?_; rintro e w4 ⟨u1, u2, rfl, o4, o5, b4⟩; have O4 := hide o4; have HF4 := hide (HF3.out.below b4); have HR4 := hide (isReduce_any HF4.out.cells.1); clear o4 o5 b4; rw [← HRB.out] at HR4) | (go_at_call 100; refine HR4.out.mono ?_; rintro e w6 ⟨rfl, rfl⟩) | fail)
      go_ret
      refine ⟨_, E, rfl, ?_, ⟨HF4.out.box, HF4.out.mp, HF4.out.om, fun x hx => HOK.out x (List.mem_filter.1 hx).1, HF4.out.ns, HF4.out.nm, HI3.out⟩, HF4.out.ft⟩
      rw [← HSR.out]
      exact O4.out.mono (by have := HF3.out.ft.size; omega)
set_option maxHeartbeats 8000000 in
set_option maxRecDepth 100000 in
theorem Fire_red {w : World} {s m o : Nat} {kd size slide ag : Int} {fq : Nat → Prop} {M : List Pn} {R : List SRow} (h : StAt w s m o kd size slide ag fq M R) (mk : Int) (hkd : kd = 0) (hmk : mk = 9223372036854775807) (hM : M.length ≤ 90000) :
    Calls Tryz.prog 95 #[.pointer (some ⟨s, 0, none⟩), .int .i64 mk] w (FrPost w s m o kd size slide ag fq M mk ((outF mk (srt (M.filter (ovr mk)))).map eT)) := by
  have hb1 := below_box w (.cells #[.int .i64 mk] 2)
  obtain ⟨W1, hW1⟩ : ∃ W1, W1 = w.alloc (.cells #[.int .i64 mk] 2) := ⟨_, rfl⟩
  rw [← hW1] at hb1
  have hs1 : W1.heap.size = w.heap.size + 1 := by rw [hW1]; simp
  have hk1 : BoxT 2 W1 w.heap.size #[.int .i64 mk] := by rw [hW1]; exact BoxT.new _ _ _
  have h1 := h.below (fun i hi => hb1.block i (h.flt i hi)) hb1.size
  have HR := hide (isReduce_any h1.cells.1)
  have HPK := hide (pick_any (⟨m, o, fq, R, h1, fun _ => Iff.rfl⟩ : SA W1 s kd size slide ag (FP s m fq) M) 102 #[.pointer (some ⟨w.heap.size, 0, none⟩)] (ovr mk) runFire (fun w1 hb x => fireC_any (BoxT.below (t := 2) hk1 hb) x) (by omega))
  have HB1 := hide hb1
  have HK1 := hide hk1
  have H1 := hide h1
  have HH := hide h
  have HIV := hide h.inv
  have HOK := hide h.ok
  obtain ⟨rb, hrb⟩ : ∃ rb, rb = (kd == 0) := ⟨_, rfl⟩
  rw [← hrb] at HR
  obtain rfl : rb = true := by rw [hrb]; simpa using hkd
  have HRB := hide hrb
  clear hrb hkd
  have hmq : (mk == 9223372036854775807) = true := by rw [hmk]; rfl
  clear hmk
  obtain ⟨c0, _⟩ := h.cells
  obtain ⟨mk0, _⟩ : W1.cell? ⟨w.heap.size, 0, none⟩ = some (.int .i64 mk) ∧ True := ⟨by rw [hk1.cellAt]; rfl, trivial⟩
  clear h h1 hb1 hk1
  go_enter Tryz.func95, Tryz.ntmps95
  go_upto_region 1 with fail
  rw [← hW1]
  clear hW1
  go_wp2_with (first | (go_at_call 100; refine HR.out.mono ?_; rintro e w1 ⟨rfl, rfl⟩) | (go_at_call 101; refine HPK.out.mono ?_; rintro e w2 ⟨u, c, rfl, o2, p2, b2⟩; have O2 := hide o2; have P2 := hide p2; have B2 := hide b2; obtain ⟨ua, uc, rfl⟩ := o2.shape; clear o2 p2 b2) | fail)
  have hcl : c.length ≤ 90000 := by have h1 := P2.out.length_eq; have h2 := List.length_filter_le (ovr mk) M; omega
  have HI : Hid (FI w w2 s m o kd size slide ag fq R (c.drop 0 ++ leftF mk M) mk (.slice ua c.length uc) c) := by
    have hst := H1.out.below (fun i hi => B2.out.block i (H1.out.flt i hi)) B2.out.size
    have hpm : M.Perm (c.drop 0 ++ leftF mk M) := (due_left mk M).trans (List.Perm.append_right _ P2.out.symm)
    refine ⟨hst.box, hst.mp.perm (hpm.map pEnt), hst.om, (FT.of_below HB1.out).trans (FT.of_below B2.out), BoxT.below (t := 2) HK1.out B2.out, by have := O2.out; rwa [hs1] at this, hst.ns, hst.nm, HH.out.flt⟩
  have HOC : Hid (∀ x ∈ c, PnOk x) := fun x hx => HOK.out x (List.mem_filter.1 (P2.out.mem_iff.1 hx)).1
  clear O2 B2 HPK H1 HK1 HB1 c0 mk0
  go_loopg [22] (c.length + 1) (fun gh iv wr => ∃ (i : Nat), iv = .int .i64 (i : Int) ∧ i ≤ c.length ∧ c.length + 1 ≤ gh + i ∧ Hid (FI w wr s m o kd size slide ag fq R (c.drop i ++ leftF mk M) mk (.slice ua c.length uc) c))
  case atStart => exact ⟨0, rfl, by omega, by omega, HI⟩
  case round =>
    clear HI
    obtain ⟨i, rfl, hi, hg, HF⟩ := hrel
    obtain ⟨go, rfl⟩ : ∃ go, gk = go + 1 := ⟨gk - 1, by omega⟩
    by_cases hlt : i < c.length
    · obtain ⟨x, hx⟩ := get_of_lt hlt
      have bt : (i : Int) < (c.length : Int) := by omega
      obtain ⟨nb, no, rfl, nlt, e0, e1, e2, e3⟩ := (HF.out.row.seg Pn.cs_len (by omega)).pane hx
      have HPX := hide (HOC.out x (List.mem_of_getElem? hx))
      have HDR : Hid (c.drop i = x :: c.drop (i + 1)) := (show _ = _ by rw [List.drop_eq_getElem_cons hlt]; rw [List.getElem?_eq_getElem hlt] at hx; rw [Option.some.inj hx])
      obtain ⟨W2, hW2⟩ : ∃ W2, W2 = wr.alloc (.cells #[.int .i64 x.k, .int .i64 x.f, .int .i64 x.t, .int .i64 x.a] 79) := ⟨_, rfl⟩
      have HBW : Hid (Below wr.heap.size wr W2) := (show Below _ _ _ by rw [hW2]; exact below_box wr _)
      have HPB : Hid (BoxT 79 W2 wr.heap.size #[.int .i64 x.k, .int .i64 x.f, .int .i64 x.t, .int .i64 x.a]) := (show BoxT _ _ _ _ by rw [hW2]; exact BoxT.new _ _ _)
      have HF2 := hide (HF.out.below HBW.out)
      have HKC : Hid (∀ w', Below W2.heap.size W2 w' → F7 s m wr.heap.size x w') := fun w' hb => by
        obtain ⟨p0, p1, p2, p3⟩ := (BoxT.below (t := 79) HPB.out hb).cells4
        exact ⟨(HF2.out.below hb).cells.2.1, p0, p1, p2, p3⟩
      have HPL : Hid (∀ w', Below W2.heap.size W2 w' → Calls Tryz.prog 104 #[x.val] w' fun e w'' => e = .returned (plV x) ∧ Below W2.heap.size W2 w'') := fun w' hb => (placeOf_any w' x).mono (by rintro e w'' ⟨rfl, h2⟩; exact ⟨rfl, hb.trans (h2.mono hb.size)⟩)
      clear hx
      go_upto_region 7 with fail
      rw [← hW2]
      clear hW2
      have B1 : Hid (Below W2.heap.size W2 W2.drew) := (Below.refl _ _).drew
      refine wp_region_M (S := fun w' => F7 s m wr.heap.size x w') (late := []) (by kernel_rfl) (HKC.out _ B1.out) (fun hH => ?_)
      (try simp only [List.size_toArray, List.length_cons, List.length_nil, Nat.zero_add, Nat.reduceAdd, Array.replicate, List.replicate])
      refine tkM 0 ?_ ?_ hH ?_
      rotate_left
      · (intro w' hSw; unfold F7 at hSw; go_simp; try (with_reducible rfl))
      (try simp only [Act.put, List.setIfInBounds_toArray, List.set_cons_zero, List.set_cons_succ])
      refine tkM 1 ?_ ?_ hH ?_
      rotate_left
      · (intro w' hSw; unfold F7 at hSw; go_simp; try (with_reducible rfl))
      (try simp only [Act.put, List.setIfInBounds_toArray, List.set_cons_zero, List.set_cons_succ])
      refine tkM 2 ?_ ?_ hH ?_
      rotate_left
      · (intro w' hSw; unfold F7 at hSw; go_simp; try (with_reducible rfl))
      (try simp only [Act.put, List.setIfInBounds_toArray, List.set_cons_zero, List.set_cons_succ])
      refine tkM 3 ?_ ?_ hH ?_
      rotate_left
      · (intro w' hSw; unfold F7 at hSw; go_simp; try (with_reducible rfl))
      (try simp only [Act.put, List.setIfInBounds_toArray, List.set_cons_zero, List.set_cons_succ])
      refine tkM 4 ?_ ?_ hH ?_
      rotate_left
      · (intro w' hSw; unfold F7 at hSw; go_simp; try (with_reducible rfl))
      (try simp only [Act.put, List.setIfInBounds_toArray, List.set_cons_zero, List.set_cons_succ])
      refine wpAnyM_one (i := 5) (o := ⟨_, _, _, _, _, _⟩) (by kernel_rfl) rfl (fun K hK => ?_)
      go_simp
      go_at_call 104
      refine (HPL.out _ B1.out).mono ?_
      rintro e w3 ⟨rfl, hb⟩
      have B3 := hide hb
      refine hK.out _ _ (HKC.out _ hb) (fun hH => ?_)
      clear hK K hb
      (try simp only [List.setIfInBounds_toArray, List.set_cons_zero, List.set_cons_succ])
      obtain ⟨lk, hlk⟩ := HPX.out.key
      have HF3 := hide (HF2.out.below B3.out)
      obtain ⟨w5, hrun5, hm5, ht5⟩ := HF3.out.mp.drop_hit Tryz.lawPl Tryz.underlying113 hlk (v0 := .int .i64 x.a) (R := (c.drop (i + 1) ++ leftF mk M).map pEnt) (by rw [HDR.out]; exact .refl _) 0
      have HF5 := hide (HF3.out.del hm5 ht5)
      have HS7 : Hid (F7 s m wr.heap.size x w5) := by
        have hne : wr.heap.size ≠ m := fun e => by have := HF.out.mp.lt; omega
        have hp : BoxT 79 w5 wr.heap.size #[.int .i64 x.k, .int .i64 x.f, .int .i64 x.t, .int .i64 x.a] := by have h1 := (BoxT.below (t := 79) HPB.out B3.out); unfold BoxT at *; rw [ht5.other hne]; exact h1
        obtain ⟨p0, p1, p2, p3⟩ := hp.cells4
        exact ⟨HF5.out.cells.2.1, p0, p1, p2, p3⟩
      clear hm5 ht5
      refine wpAnyM_one (i := 6) (o := ⟨_, _, _, _, _, _⟩) (by kernel_rfl) rfl (fun K hK => ?_)
      refine step_del_run rfl _ _ 113 150 rfl _ _ rfl rfl hrun5 ?_
      refine hK.out _ _ HS7.out (fun hH => ?_)
      clear hK K
      (try simp only [List.setIfInBounds_toArray, List.set_cons_zero, List.set_cons_succ])
      refine wpAnyM_done (by kernel_rfl) ?_ _
      go_wp2_with fail
      go_roundg go
      case rel => exact ⟨i + 1, by go_num, by omega, by omega, HF5⟩
      case measure => omega
    · obtain rfl : i = c.length := by omega
      have bt : ¬ ((c.length : Nat) : Int) < (c.length : Int) := by omega
      have HF0 := HF
      rw [List.drop_length, List.nil_append] at HF0
      clear HF
      have HKC : Hid (∀ w', Below wr.heap.size wr w' → F9 s o w.heap.size mk w') := fun w' hb => ⟨(HF0.out.below hb).cells.2.2.1, (HF0.out.below hb).cells.2.2.2⟩
      have HRL : Hid (∀ r ∈ R, r.l.length ≤ 100000) := fun r hr => (show r.l.length ≤ 100000 by have := rows_len HIV.out r hr; omega)
      go_upto_region 9 with fail
      have B1 : Hid (Below wr.heap.size wr wr.drew) := (Below.refl _ _).drew
      have HF1 := hide (HF0.out.below B1.out)
      refine wp_region_M (S := fun w' => F9 s o w.heap.size mk w') (late := []) (by kernel_rfl) (HKC.out _ B1.out) (fun hH => ?_)
      (try simp only [List.size_toArray, List.length_cons, List.length_nil, Nat.zero_add, Nat.reduceAdd, Array.replicate, List.replicate])
      refine tkM 0 ?_ ?_ hH ?_
      rotate_left
      · (intro w' hSw; unfold F9 at hSw; go_simp; try (with_reducible rfl))
      (try simp only [Act.put, List.setIfInBounds_toArray, List.set_cons_zero, List.set_cons_succ])
      refine tkM 1 ?_ ?_ hH ?_
      rotate_left
      · (intro w' hSw; unfold F9 at hSw; go_simp; try (with_reducible rfl))
      (try simp only [Act.put, List.setIfInBounds_toArray, List.set_cons_zero, List.set_cons_succ])
      refine tkM 2 ?_ ?_ hH ?_
      rotate_left
      · (intro w' hSw; unfold F9 at hSw; go_simp; try (with_reducible rfl))
      (try simp only [Act.put, List.setIfInBounds_toArray, List.set_cons_zero, List.set_cons_succ])
      refine tkM 3 ?_ ?_ hH ?_
      rotate_left
      · (intro w' hSw; unfold F9 at hSw; go_simp; try (with_reducible rfl))
      (try simp only [Act.put, List.setIfInBounds_toArray, List.set_cons_zero, List.set_cons_succ])
      refine tkM 4 ?_ ?_ hH ?_
      rotate_left
      · (intro w' hSw; unfold F9 at hSw; go_simp; try (with_reducible rfl))
      (try simp only [Act.put, List.setIfInBounds_toArray, List.set_cons_zero, List.set_cons_succ])
      refine wpAnyM_one (i := 5) (o := ⟨_, _, _, _, _, _⟩) (by kernel_rfl) rfl (fun K hK => ?_)
      go_simp
      go_at_call 105
      refine (end_any HF1.out.om mk HRL.out).mono ?_
      rintro e w3 ⟨rfl, E, D, om3, ft3, pm3, e3⟩
      have HF3 := hide (HF1.out.ended om3 ft3)
      have HI3 := hide (end_inv HIV.out pm3 e3)
      clear om3 ft3 pm3 e3
      refine hK.out _ _ ⟨HF3.out.cells.2.2.1, HF3.out.cells.2.2.2⟩ (fun hH => ?_)
      clear hK K
      (try simp only [List.setIfInBounds_toArray, List.set_cons_zero, List.set_cons_succ])
      refine wpAnyM_done (by kernel_rfl) ?_ _
      have HSG := hide (HF3.out.row.seg Pn.cs_len (by omega))
      have HWF := hide (Fire_any HSG.out (by omega) mk)
      have hk3 := HF3.out.cells.2.2.2
      have HSR : Hid (srt c = srt (M.filter (ovr mk))) := srt_eq P2.out
      have HOL : Hid ((outF mk (srt c)).length ≤ 90000) := (show _ ≤ _ by have h1 := out_len mk (srt c); rw [srt_len] at h1; omega)
      obtain ⟨OU, hOU⟩ : ∃ OU, OU = outF mk (srt c) := ⟨_, rfl⟩
      rw [← hOU] at HWF HOL
      have HOU : Hid (OU = outF mk (srt (M.filter (ovr mk)))) := (show _ = _ from hOU.trans (by rw [HSR.out]))
      clear hOU
      have HOL2 := HOL.out
      go_wp2_with (first | (go_at_call 106; refine HWF.out.mono ?_; rintro e w4 ⟨u1, u2, rfl, o4, o5, b4⟩; obtain ⟨ra, rc, rfl⟩ := o4.shape; have O4 := hide o4; have B4 := hide b4; have HF4 := hide (HF3.out.below b4); have HR4 := hide (isReduce_any HF4.out.cells.1); clear o4 o5 b4; rw [← HRB.out] at HR4) | (go_at_call 100; refine HR4.out.mono ?_; rintro e w6 ⟨rfl, rfl⟩) | fail)
      have O5 : Hid (OwnL 38 3 Rc.cs w3.heap.size w6 (.slice ra OU.length rc) (eL OU 0)) := O4
      clear O4 HWF HF4 HR4 hk3
      go_loopg [49] (OU.length + 1) (fun gh iv wr => ∃ (i : Nat), iv = .int .i64 (i : Int) ∧ i ≤ OU.length ∧ OU.length + 1 ≤ gh + i ∧ Hid (OwnL 38 3 Rc.cs w3.heap.size wr (.slice ra OU.length rc) (eL OU i)) ∧ Hid (Below w3.heap.size w3 wr))
      case atStart => exact ⟨0, rfl, by omega, by omega, O5, B4⟩
      case round =>
        clear O5 B4
        obtain ⟨i, rfl, hi, hg, O5, B5⟩ := hrel
        obtain ⟨go, rfl⟩ : ∃ go, gk = go + 1 := ⟨gk - 1, by omega⟩
        by_cases hlt : i < OU.length
        · obtain ⟨x, hx⟩ := get_of_lt hlt
          have bt : (i : Int) < (OU.length : Int) := by omega
          obtain ⟨g5, rfl⟩ : ∃ g5, ra = some ⟨g5, 0, none⟩ := by
            obtain ⟨g5, cp5, e5⟩ := O5.out.own (by rw [eL_len]; omega)
            simp only [Value.slice.injEq] at e5
            exact ⟨g5, e5.1⟩
          have HS5 : Hid (OwnL 38 3 Rc.cs w3.heap.size (wr.setCell ⟨g5, i * 3 + 1, none⟩ (.int .i64 2199023255552)) (.slice (some ⟨g5, 0, none⟩) OU.length rc) (eL OU (i + 1))) := (show OwnL _ _ _ _ _ _ _ by rw [← eL_step hx]; exact O5.out.setField Rc.cs_len (by omega) (eL_get hx) (by omega) rfl)
          have HB5 : Hid (Below w3.heap.size w3 (wr.setCell ⟨g5, i * 3 + 1, none⟩ (.int .i64 2199023255552))) := B5.out.grown (grownBy_set _ _ _ _) B5.out.size (fun k e => by cases e; exact O5.out.at g5 rfl)
          have d1 : wr.cell? ⟨g5, i * 3 + 1, none⟩ = some (.int .i64 x.t) := by
            obtain ⟨nb, no, en, nlt, _, d⟩ := (O5.out.seg Rc.cs_len (by rw [eL_len]; omega)).readAt (eL_get hx)
            simp only [Option.some.injEq, Addr.mk.injEq] at en
            obtain ⟨rfl, rfl, _⟩ := en
            have d1 := d 1 _ rfl
            rwa [Nat.zero_add] at d1
          obtain ⟨cu5, hb5⟩ := O5.out.has g5 rfl
          have hf5 : ∀ j, wr.frozen? ⟨g5, j, none⟩ = false := fun j => (show BoxT 38 wr g5 cu5 from hb5).free j
          clear hb5 hx
          go_wp2_with fail
          go_roundg go
          case rel => exact ⟨i + 1, by go_num, by omega, by omega, HS5, HB5⟩
          case measure => omega
        · obtain rfl : i = OU.length := by omega
          have bt : ¬ ((OU.length : Nat) : Int) < (OU.length : Int) := by omega
          have HF4 := hide (HF3.out.below B5.out)
          have O6 : Hid (OwnL 38 3 Rc.cs w3.heap.size wr (.slice ra OU.length rc) (OU.map eT)) := (show OwnL _ _ _ _ _ _ _ by have h6 := O5.out; unfold eL at h6; rw [List.take_of_length_le (Nat.le_refl _), List.drop_length, List.append_nil] at h6; exact h6)
          clear O5 B5
          go_wp2_with fail
          go_ret
          refine ⟨.slice ra OU.length rc, E, rfl, ?_, ⟨HF4.out.box, HF4.out.mp, HF4.out.om, fun x hx => HOK.out x (List.mem_filter.1 hx).1, HF4.out.ns, HF4.out.nm, HI3.out⟩, HF4.out.ft⟩
          rw [← HOU.out]
          exact O6.out.mono (by have := HF3.out.ft.size; omega)
set_option maxHeartbeats 4000000 in
set_option maxRecDepth 100000 in
theorem Fire_idle {w : World} {s m o : Nat} {kd size slide ag : Int} {fq : Nat → Prop} {M : List Pn} {R : List SRow} (h : StAt w s m o kd size slide ag fq M R) (mk : Int) (hkd : kd = 0) (hmk : mk ≠ 9223372036854775807) :
    Calls Tryz.prog 95 #[.pointer (some ⟨s, 0, none⟩), .int .i64 mk] w fun e w' => e = .returned (.slice none 0 0) ∧ Below w.heap.size w w' := by
  have hb1 := below_box w (.cells #[.int .i64 mk] 2)
  obtain ⟨W1, hW1⟩ : ∃ W1, W1 = w.alloc (.cells #[.int .i64 mk] 2) := ⟨_, rfl⟩
  rw [← hW1] at hb1
  have hk1 : BoxT 2 W1 w.heap.size #[.int .i64 mk] := by rw [hW1]; exact BoxT.new _ _ _
  have h1 := h.below (fun i hi => hb1.block i (h.flt i hi)) hb1.size
  have HR := hide (isReduce_any h1.cells.1)
  have HB1 := hide hb1
  rw [show (kd == 0) = true by simpa using hkd] at HR
  have hmq : (mk == 9223372036854775807) = false := by simpa using hmk
  obtain ⟨mk0, _⟩ : W1.cell? ⟨w.heap.size, 0, none⟩ = some (.int .i64 mk) ∧ True := ⟨by rw [hk1.cellAt]; rfl, trivial⟩
  clear h h1 hb1 hk1 hkd
  go_enter Tryz.func95, Tryz.ntmps95
  go_upto_region 1 with fail
  rw [← hW1]
  clear hW1
  go_wp2_with (first | (go_at_call 100; refine HR.out.mono ?_; rintro e w1 ⟨rfl, rfl⟩) | fail)
  go_ret
  exact ⟨rfl, HB1.out⟩
end Go.Proofs.YtpcbhcdpegbfjaaGreat
/-
  leathelp's Panes, Records, Bytes of equal lists; Place; the laws' fit and time.
-/
namespace Go.Proofs.YtpcbhcdpegbfjaaGreat
open Go.RowKit

theorem LSeg.rec {B : Nat} {w : World} {ao : Option Addr} {n cap : Nat} {xs : List Rc} (h : LSeg 3 Rc.cs B w (.slice ao n cap) xs) {i : Nat} {x : Rc} (hx : xs[i]? = some x) : ∃ b o, ao = some ⟨b, o, none⟩ ∧ b < B ∧ w.cell? ⟨b, o + i * 3, none⟩ = some (.int .i64 x.k) ∧ w.cell? ⟨b, o + i * 3 + 1, none⟩ = some (.int .i64 x.t) ∧ w.cell? ⟨b, o + i * 3 + 2, none⟩ = some (.int .i64 x.v) := by
  obtain ⟨b, o, e, hb, _, d⟩ := h.readAt hx
  exact ⟨b, o, e, hb, d 0 _ rfl, d 1 _ rfl, d 2 _ rfl⟩
set_option maxHeartbeats 1000000 in
set_option maxRecDepth 100000 in
theorem hPanes_any {w : World} {v1 v2 : Value} {B1 B2 : Nat} {l : List Pn} (h1 : LSeg 4 Pn.cs B1 w v1 l) (h2 : LSeg 4 Pn.cs B2 w v2 l) (hn : l.length ≤ 1000000) : Calls Tryz.prog 21 #[v1, v2] w fun e w' => e = .returned (.bool true) ∧ Below w.heap.size w w' := by
  obtain ⟨a1, c1, rfl⟩ := h1.shapeOf
  obtain ⟨a2, c2, rfl⟩ := h2.shapeOf
  have H1 := hide h1
  have H2 := hide h2
  clear h1 h2
  go_enter Tryz.func21, Tryz.ntmps21
  go_wp2_with fail
  go_loopg [5] (l.length + 1) (fun gh iv wr => ∃ i : Nat, iv = .int .i64 (i : Int) ∧ i ≤ l.length ∧ l.length + 1 ≤ gh + i ∧ Hid (∀ B, Below B w wr))
  case atStart => exact ⟨0, rfl, by omega, by omega, (show ∀ B, _ from fun B => Below.refl _ _)⟩
  case round =>
    obtain ⟨i, rfl, hi, hg, HD⟩ := hrel
    obtain ⟨go, rfl⟩ : ∃ go, gk = go + 1 := ⟨gk - 1, by omega⟩
    by_cases hlt : i < l.length
    · obtain ⟨x, hx⟩ := get_of_lt hlt
      have bt : (i : Int) < (l.length : Int) := by omega
      have hbr := HD.out
      obtain ⟨b1, o1, rfl, _, e0, e1, e2, e3⟩ := (H1.out.below (hbr _)).pane hx
      obtain ⟨b2, o2, rfl, _, f0, f1, f2, f3⟩ := (H2.out.below (hbr _)).pane hx
      clear hx hbr
      obtain ⟨x0, x1, x2, x3⟩ := x
      simp only at e0 e1 e2 e3 f0 f1 f2 f3
      go_wp2_with fail
      go_quiet (fail)
      go_wp2_with fail
      go_roundg go
      case rel => exact ⟨i + 1, by go_num, by omega, by omega, (show ∀ B, _ from fun B => below_drewN (HD.out B) _)⟩
      case measure => omega
    · have bt : ¬ (i : Int) < (l.length : Int) := by omega
      go_wp2_with fail
      go_ret
      exact ⟨rfl, HD.out _⟩
set_option maxHeartbeats 1000000 in
set_option maxRecDepth 100000 in
theorem hRecords_any {w : World} {v1 v2 : Value} {B1 B2 : Nat} {l : List Rc} (h1 : LSeg 3 Rc.cs B1 w v1 l) (h2 : LSeg 3 Rc.cs B2 w v2 l) (hn : l.length ≤ 1000000) : Calls Tryz.prog 13 #[v1, v2] w fun e w' => e = .returned (.bool true) ∧ Below w.heap.size w w' := by
  obtain ⟨a1, c1, rfl⟩ := h1.shapeOf
  obtain ⟨a2, c2, rfl⟩ := h2.shapeOf
  have H1 := hide h1
  have H2 := hide h2
  clear h1 h2
  go_enter Tryz.func13, Tryz.ntmps13
  go_wp2_with fail
  go_loopg [5] (l.length + 1) (fun gh iv wr => ∃ i : Nat, iv = .int .i64 (i : Int) ∧ i ≤ l.length ∧ l.length + 1 ≤ gh + i ∧ Hid (∀ B, Below B w wr))
  case atStart => exact ⟨0, rfl, by omega, by omega, (show ∀ B, _ from fun B => Below.refl _ _)⟩
  case round =>
    obtain ⟨i, rfl, hi, hg, HD⟩ := hrel
    obtain ⟨go, rfl⟩ : ∃ go, gk = go + 1 := ⟨gk - 1, by omega⟩
    by_cases hlt : i < l.length
    · obtain ⟨x, hx⟩ := get_of_lt hlt
      have bt : (i : Int) < (l.length : Int) := by omega
      have hbr := HD.out
      obtain ⟨b1, o1, rfl, _, e0, e1, e2⟩ := (H1.out.below (hbr _)).rec hx
      obtain ⟨b2, o2, rfl, _, f0, f1, f2⟩ := (H2.out.below (hbr _)).rec hx
      clear hx hbr
      obtain ⟨x0, x1, x2⟩ := x
      simp only at e0 e1 e2 f0 f1 f2
      go_wp2_with fail
      go_quiet (fail)
      go_wp2_with fail
      go_roundg go
      case rel => exact ⟨i + 1, by go_num, by omega, by omega, (show ∀ B, _ from fun B => below_drewN (HD.out B) _)⟩
      case measure => omega
    · have bt : ¬ (i : Int) < (l.length : Int) := by omega
      go_wp2_with fail
      go_ret
      exact ⟨rfl, HD.out _⟩
def FitW (k size slide : Int) : Prop := 1 ≤ k ∧ k ≤ 3 ∧ 1 ≤ size ∧ size ≤ 68719476736 ∧ ((k = 2 ∧ 1 ≤ slide ∧ slide ≤ 68719476736 ∧ (size - 1) / slide < 64) ∨ (k ≠ 2 ∧ slide = 0))
def FitS (k size slide a : Int) : Prop := 1 ≤ a ∧ a ≤ 5 ∧ ((k = 0 ∧ size = 0 ∧ slide = 0) ∨ FitW k size slide)
def TimeOk (t : Int) : Prop := -1125899906842624 ≤ t ∧ t ≤ 1125899906842624
def RetT (e : Ending) (P : Prop) : Prop := ∃ b : Bool, e = .returned (.bool b) ∧ (b = true ↔ P)
theorem RetT.no {P : Prop} (h : ¬ P) : RetT (.returned (.bool false)) P := ⟨false, rfl, by simp [h]⟩
theorem RetT.yes {P : Prop} (h : P) : RetT (.returned (.bool true)) P := ⟨true, rfl, by simp [h]⟩
theorem RetT.is_yes {e : Ending} {P : Prop} (h : RetT e P) (hp : P) : e = .returned (.bool true) := by obtain ⟨b, rfl, hb⟩ := h; rw [hb.2 hp]
theorem RetT.is_no {e : Ending} {P : Prop} (h : RetT e P) (hp : ¬ P) : e = .returned (.bool false) := by
  obtain ⟨b, rfl, hb⟩ := h
  cases b with
  | false => rfl
  | true => exact absurd (hb.1 rfl) hp
set_option maxRecDepth 100000 in
theorem time_any (w : World) (t : Int) : Calls Tryz.prog 12 #[.int .i64 t] w fun e w' => RetT e (TimeOk t) ∧ w' = w := by
  by_cases h1 : -1125899906842624 ≤ t
  · by_cases h2 : t ≤ 1125899906842624
    · go_enter Tryz.func12, Tryz.ntmps12
      go_wp2_with fail
      go_ret
      exact ⟨⟨true, rfl, by simp [TimeOk, h1, h2]⟩, rfl⟩
    · go_enter Tryz.func12, Tryz.ntmps12
      go_wp2_with fail
      go_ret
      exact ⟨⟨false, rfl, by simp [TimeOk]; omega⟩, rfl⟩
  · go_enter Tryz.func12, Tryz.ntmps12
    go_wp2_with fail
    go_ret
    exact ⟨⟨false, rfl, by simp [TimeOk]; omega⟩, rfl⟩
theorem time_yes {t : Int} (h : TimeOk t) (w : World) : Calls Tryz.prog 12 #[.int .i64 t] w fun e w' => e = .returned (.bool true) ∧ w' = w := (time_any w t).mono fun _ _ h1 => ⟨h1.1.is_yes h, h1.2⟩
theorem time_no {t : Int} (h : ¬ TimeOk t) (w : World) : Calls Tryz.prog 12 #[.int .i64 t] w fun e w' => e = .returned (.bool false) ∧ w' = w := (time_any w t).mono fun _ _ h1 => ⟨h1.1.is_no h, h1.2⟩
def plc (i n : Int) : Int := if i.tmod n < 0 then i.tmod n + n else i.tmod n
theorem plc_in {i n : Int} (h : 1 ≤ n) : 0 ≤ plc i n ∧ plc i n < n := since_in h
set_option maxHeartbeats 1000000 in
set_option maxRecDepth 100000 in
theorem hPlace_any (w : World) (i : Int) {n : Int} (h : 1 ≤ n) (hn : n ≤ 1000000) : Calls Tryz.prog 23 #[.int .i64 i, .int .i64 n] w fun e w' => e = .returned (.int .i64 (plc i n)) ∧ w' = w := by
  have hz : n ≠ 0 := by omega
  obtain ⟨k1, k2⟩ := plc_in (i := i) h
  unfold plc at *
  by_cases hm : i.tmod n < 0
  · rw [if_pos hm] at *
    have f1 : wrap64 (i.tmod n + n) = i.tmod n + n := by unfold wrap64; omega
    generalize hR : i.tmod n + n = R at *
    have HR := hide hR
    clear hR
    go_enter Tryz.func23, Tryz.ntmps23
    go_wp2_with fail
    go_ret
    exact ⟨ret_int (by first | exact f1 | (rw [HR.out]; exact f1) | exact HR.out), rfl⟩
  · rw [if_neg hm] at *
    go_enter Tryz.func23, Tryz.ntmps23
    go_wp2_with fail
    go_ret
    exact ⟨rfl, rfl⟩
end Go.Proofs.YtpcbhcdpegbfjaaGreat
/-
  The spans of a time, plainly (pure).
-/
namespace Go.Proofs.YtpcbhcdpegbfjaaGreat
open Go.RowKit

theorem LSeg.on {α : Type} {sz : Nat} {cs : α → List Value} {w w' : World} {v : Value} {xs : List α} (h : LSeg sz cs w.heap.size w v xs) (hb : Below w.heap.size w w') : LSeg sz cs w'.heap.size w' v xs := (h.below hb).mono hb.size
theorem fit_size {k size slide : Int} (h : FitW k size slide) : 1 ≤ size ∧ size ≤ 68719476736 := ⟨h.2.2.1, h.2.2.2.1⟩
def cntOf (size slide since : Int) : Nat := if size ≤ since then 0 else ((size - 1 - since) / slide + 1).toNat
theorem cnt_le {size slide t : Int} (hw : FitW 2 size slide) : cntOf size slide (sinceOf slide t) ≤ 64 := by
  obtain ⟨_, _, h1, _, ⟨_, h2, _, h3⟩ | ⟨h2, _⟩⟩ := hw
  · obtain ⟨k1, _⟩ := since_in (t := t) h2
    unfold cntOf
    split
    · omega
    · have : (size - 1 - sinceOf slide t) / slide ≤ (size - 1) / slide := Int.ediv_le_ediv (by omega) (by omega)
      omega
  · exact absurd rfl h2
theorem cnt_iff {size slide since : Int} (h2 : 1 ≤ slide) (j : Nat) : j < cntOf size slide since ↔ (j : Int) * slide < size - since := by
  unfold cntOf
  split
  · rename_i h
    have : 0 ≤ (j : Int) * slide := Int.mul_nonneg (by omega) (by omega)
    omega
  · rename_i h
    have h4 : (j : Int) ≤ (size - 1 - since) / slide ↔ (j : Int) * slide ≤ size - 1 - since := Int.le_ediv_iff_mul_le (by omega)
    have h5 : 0 ≤ (size - 1 - since) / slide := Int.ediv_nonneg (by omega) (by omega)
    omega
def bkS (size slide s0 : Int) (c : Nat) : List Sp := (List.range c).map fun i : Nat => ⟨s0 - (i : Int) * slide, s0 - (i : Int) * slide + size⟩
theorem span_no_wrap {size slide t since : Int} {c i : Nat} (ht : TimeOk t) (hs : 1 ≤ size ∧ size ≤ 68719476736) (h2 : 1 ≤ slide) (h0 : 0 ≤ since) (h1 : since < 68719476736) (hc : ((c : Int) - 1) * slide ≤ size - 1 - since) (hi : i < c) : spanAt size slide t since c i = ⟨t - since - ((c : Int) - 1 - (i : Int)) * slide, t - since - ((c : Int) - 1 - (i : Int)) * slide + size⟩ := by
  have hp : 0 ≤ ((c : Int) - 1 - (i : Int)) * slide ∧ ((c : Int) - 1 - (i : Int)) * slide ≤ ((c : Int) - 1) * slide := ⟨Int.mul_nonneg (by omega) (by omega), Int.mul_le_mul_of_nonneg_right (by omega) (by omega)⟩
  unfold spanAt
  unfold TimeOk at ht
  generalize ((c : Int) - 1 - (i : Int)) * slide = z at *
  generalize ((c : Int) - 1) * slide = y at *
  have e1 : wrap64 (t - since) = t - since := by unfold wrap64; omega
  have e2 : wrap64 (t - since - z) = t - since - z := by unfold wrap64; omega
  have e3 : wrap64 (t - since - z + size) = t - since - z + size := by unfold wrap64; omega
  rw [e1, e2, e3]
theorem spans_two {size slide t : Int} (hw : FitW 2 size slide) (ht : TimeOk t) : pSpans 2 size slide t = (bkS size slide (t - sinceOf slide t) (cntOf size slide (sinceOf slide t))).reverse := by
  have hs := fit_size hw
  have hcl := cnt_le (t := t) hw
  obtain ⟨_, _, _, _, ⟨_, h2, h3, _⟩ | ⟨h2, _⟩⟩ := hw
  · obtain ⟨k1, k2⟩ := since_in (t := t) h2
    unfold pSpans
    rw [if_neg (by omega), if_neg (by omega), if_pos rfl]
    unfold rgl
    rw [if_neg (by omega)]
    generalize sinceOf slide t = since at *
    by_cases h4 : size ≤ since
    · rw [if_pos h4]
      have : cntOf size slide since = 0 := by unfold cntOf; rw [if_pos h4]
      rw [this]; rfl
    · rw [if_neg h4]
      have ec : countOf size slide since = cntOf size slide since := by
        unfold countOf cntOf at *
        rw [if_neg h4] at *
        rw [Int.tdiv_eq_ediv_of_nonneg (by omega)]
        omega
      have hc := (count_in (slide := slide) h2 (show since < size by omega)).2.2
      rw [ec] at hc ⊢
      generalize cntOf size slide since = c at *
      apply List.ext_getElem
      · simp [bkS]
      · intro i h5 h6
        simp only [List.length_map, List.length_range] at h5
        rw [List.getElem_reverse]
        simp only [bkS, List.getElem_map, List.getElem_range, List.length_map, List.length_range]
        rw [span_no_wrap ht hs h2 k1 (by omega) hc h5]
        have e : (((c - 1 - i : Nat)) : Int) = (c : Int) - 1 - (i : Int) := by omega
        rw [e]
  · exact absurd rfl h2
theorem spans_one {size slide t : Int} (hw : FitW 1 size slide) (ht : TimeOk t) : pSpans 1 size slide t = [⟨t - sinceOf size t, t - sinceOf size t + size⟩] := by
  have hs := fit_size hw
  obtain ⟨k1, k2⟩ := since_in (t := t) hs.1
  unfold pSpans
  rw [if_neg (by omega), if_pos rfl]
  unfold rgl
  rw [if_neg (by omega), if_neg (by omega)]
  generalize sinceOf size t = since at *
  have e : countOf size size since = 1 := by
    unfold countOf
    rw [Int.tdiv_eq_ediv_of_nonneg (by omega), Int.ediv_eq_zero_of_lt (by omega) (by omega)]
    rfl
  rw [e]
  show [spanAt size size t since 1 0] = _
  rw [span_no_wrap ht hs hs.1 k1 (by omega) (by omega) (by omega)]
  have e2 : (((1 : Nat) : Int) - 1 - ((0 : Nat) : Int)) * size = 0 := by omega
  rw [e2, Int.sub_zero]
theorem spans_three {size slide t : Int} (hw : FitW 3 size slide) (ht : TimeOk t) : pSpans 3 size slide t = [⟨t, t + size⟩] := by
  have hs := fit_size hw
  unfold pSpans TimeOk at *
  rw [if_neg (by omega), if_neg (by omega), if_neg (by omega), if_pos rfl]
  have e : wrap64 (t + size) = t + size := by unfold wrap64; omega
  rw [e]
def Bd (p : Pn) : Prop := -1152921504606846976 ≤ p.f ∧ p.f ≤ 1152921504606846976 ∧ -1152921504606846976 ≤ p.t ∧ p.t ≤ 1152921504606846976
theorem spans_bd {k size slide t : Int} (hw : FitW k size slide) (ht : TimeOk t) : ∀ s ∈ pSpans k size slide t, -1152921504606846976 ≤ s.f ∧ s.f ≤ 1152921504606846976 ∧ -1152921504606846976 ≤ s.t ∧ s.t ≤ 1152921504606846976 := by
  have hs := fit_size hw
  have hk : k = 1 ∨ k = 2 ∨ k = 3 := by obtain ⟨h1, h2, _⟩ := hw; omega
  have ht2 := ht
  unfold TimeOk at ht2
  rcases hk with rfl | rfl | rfl
  · rw [spans_one hw ht]
    obtain ⟨h1, h2⟩ := since_in (t := t) hs.1
    intro s h
    obtain rfl := List.mem_singleton.1 h
    dsimp only
    omega
  · rw [spans_two hw ht]
    have h2 : 1 ≤ slide ∧ slide ≤ 68719476736 := by obtain ⟨_, _, _, _, ⟨_, h2, h3, _⟩ | ⟨h2, _⟩⟩ := hw; exact ⟨h2, h3⟩; exact absurd rfl h2
    obtain ⟨h3, h4⟩ := since_in (t := t) h2.1
    intro s h
    rw [List.mem_reverse] at h
    unfold bkS at h
    obtain ⟨i, hi, rfl⟩ := List.mem_map.1 h
    have h5 := (cnt_iff (size := size) (since := sinceOf slide t) h2.1 i).1 (List.mem_range.1 hi)
    have h6 : 0 ≤ (i : Int) * slide := Int.mul_nonneg (by omega) (by omega)
    dsimp only
    generalize (i : Int) * slide = z at *
    omega
  · rw [spans_three hw ht]
    intro s h
    obtain rfl := List.mem_singleton.1 h
    dsimp only
    omega
theorem spans_full {k size slide : Int} {t : Int} (hw : FitW k size slide) (ht : TimeOk t) (hs : sess k = true) : ∀ s ∈ pSpans k size slide t, s.f < s.t := by
  have h3 : k = 3 := of_decide_eq_true hs
  obtain ⟨_, _, h1, h2, _⟩ := hw
  subst h3
  unfold pSpans TimeOk at *
  rw [if_neg (by omega), if_neg (by omega), if_neg (by omega), if_pos rfl]
  intro s h
  obtain rfl := List.mem_singleton.1 h
  show t < wrap64 (t + size)
  unfold wrap64; omega
theorem sps_fit {k size slide a t : Int} (hw : FitS k size slide a) (ht : TimeOk t) : ∀ sp ∈ sps k size slide t, In64 sp.f ∧ In64 sp.t ∧ (k = 3 → sp.f < sp.t) := by
  intro sp hsp
  obtain ⟨_, _, ⟨rfl, rfl, rfl⟩ | hw⟩ := hw
  · unfold sps at hsp
    rw [if_pos rfl, List.mem_singleton] at hsp
    subst hsp
    unfold In64
    exact ⟨by dsimp only; omega, by dsimp only; omega, fun e => by cases e⟩
  · have hk0 : k ≠ 0 := by obtain ⟨h1, _⟩ := hw; omega
    unfold sps at hsp
    rw [if_neg hk0] at hsp
    have h1 := spans_bd hw ht sp hsp
    unfold In64
    exact ⟨by omega, by omega, fun e => spans_full hw ht (by subst e; rfl) sp hsp⟩
theorem frS_len (k size slide a : Int) (r : Rc) : (frS k size slide a r).length ≤ 64 := by unfold frS; rw [List.length_map]; exact sps_len ..
def Fn (k : Int) (p : Pn) : Prop := Bd p ∧ (k = 3 → p.f < p.t)
theorem frS_fn {k size slide a : Int} (hw : FitW k size slide) {r : Rc} (ht : TimeOk r.t) : ∀ p ∈ frS k size slide a r, Fn k p := by
  intro p hp
  unfold frS at hp
  obtain ⟨sp, hsp, rfl⟩ := List.mem_map.1 hp
  have hk0 : k ≠ 0 := by obtain ⟨h1, _⟩ := hw; omega
  unfold sps at hsp
  rw [if_neg hk0] at hsp
  exact ⟨spans_bd hw ht sp hsp, fun e => spans_full hw ht (by subst e; rfl) sp hsp⟩
theorem Reds.fn {k : Int} {J : Int → Int → Int} {l m : List Pn} (h : Reds (sess k) J l m) (hl : ∀ p ∈ l, Fn k p) : ∀ p ∈ m, Fn k p :=
  Reds.keeps (P := Fn k) (fun x y _ hx hy => by
    unfold Fn Bd jp at *
    dsimp only at *
    refine ⟨by omega, fun e => ?_⟩
    have h1 := hx.2 e
    omega) h hl
end Go.Proofs.YtpcbhcdpegbfjaaGreat
/-
  A keyed operator with panes aside, as it lies; settle.
-/
namespace Go.Proofs.YtpcbhcdpegbfjaaGreat
open Go.RowKit


def FK (K : Nat) (av : Value) (fp : Nat → Prop) (i : Nat) : Prop := i = K ∨ av.ownBlock = some i ∨ fp i
structure KA (W : World) (K tK : Nat) (rest : List Value) (s : Nat) (kd size slide a : Int) (fp : Nat → Prop) (M A : List Pn) (av : Value) (g d : Int) : Prop where
  kb : BoxT tK W K (Value.pointer (some ⟨s, 0, none⟩) :: av :: .int .i64 g :: .int .i64 d :: rest).toArray
  tk : tK = 102 ∨ tK = 99
  sa : SA W s kd size slide a fp M
  row : Row 79 4 Pn.cs 0 W av A
  nk : ¬ fp K
  na : ∀ q, av.ownBlock = some q → ¬ fp q
  ok : ∀ x ∈ A, PnOk x ∧ (kd = 3 → x.f < x.t)
  az : A = [] → av = .slice none 0 0
section
variable {W W' : World} {K tK s : Nat} {rest : List Value} {kd size slide a : Int} {fp fp' : Nat → Prop} {M M' A : List Pn} {av : Value} {g d : Int}
theorem BoxT.back' {t : TypeId} {w w' : World} {k : Nat} {cs : Array Value} (h : BoxT t w k cs) (hb : w'.heap[k]? = w.heap[k]?) : BoxT t w' k cs := by
  unfold BoxT at *
  rw [hb]; exact h
theorem BoxT.ne' {t t' : TypeId} {w : World} {k k' : Nat} {cs cs' : Array Value} (h : BoxT t w k cs) (h' : BoxT t' w k' cs') (ht : t ≠ t') : k ≠ k' := fun e => by
  subst e
  unfold BoxT at h h'
  rw [h] at h'
  simp at h'
  exact ht h'.2
theorem KA.nq (h : KA W K tK rest s kd size slide a fp M A av g d) : ∀ q, av.ownBlock = some q → q ≠ K := fun q e => by
  obtain ⟨cur, hc⟩ := h.row.has q e
  refine BoxT.ne' hc h.kb ?_
  rcases h.tk with rfl | rfl <;> decide
theorem KA.below (h : KA W K tK rest s kd size slide a fp M A av g d) (hb : Below W.heap.size W W') : KA W' K tK rest s kd size slide a fp M A av g d :=
  ⟨h.kb.below hb, h.tk, h.sa.below hb, h.row.below hb, h.nk, h.na, h.ok, h.az⟩
theorem KA.c0 (h : KA W K tK rest s kd size slide a fp M A av g d) : W.cell? ⟨K, 0, none⟩ = some (.pointer (some ⟨s, 0, none⟩)) := h.kb.cellAt 0
theorem KA.c1 (h : KA W K tK rest s kd size slide a fp M A av g d) : W.cell? ⟨K, 1, none⟩ = some av := h.kb.cellAt 1
theorem KA.c2 (h : KA W K tK rest s kd size slide a fp M A av g d) : W.cell? ⟨K, 2, none⟩ = some (.int .i64 g) := h.kb.cellAt 2
theorem KA.c3 (h : KA W K tK rest s kd size slide a fp M A av g d) : W.cell? ⟨K, 3, none⟩ = some (.int .i64 d) := h.kb.cellAt 3
theorem KA.flt (h : KA W K tK rest s kd size slide a fp M A av g d) : ∀ i, FK K av fp i → i < W.heap.size := fun i hi => by
  rcases hi with rfl | e | e
  · exact h.kb.lt
  · obtain ⟨cur, hc⟩ := h.row.has i e
    exact hc.lt
  · exact h.sa.flt i e
theorem KA.seg (h : KA W K tK rest s kd size slide a fp M A av g d) (hn : A.length ≤ 90000) : LSeg 4 Pn.cs W.heap.size W av A := h.row.seg Pn.cs_len (by omega)
theorem FT.fk (h : FT fp fp' W W') (K : Nat) {av av' : Value} (hv : ∀ i, av'.ownBlock = some i → av.ownBlock = some i ∨ W.heap.size ≤ i) : FT (FK K av fp) (FK K av' fp') W W' :=
  ⟨h.os, h.tape, h.output, h.size, fun i hi hn => h.block i hi (fun e => hn (.inr (.inr e))), fun i hi => by
    rcases hi with rfl | e | e
    · exact .inl (.inl rfl)
    · rcases hv i e with e2 | e2
      · exact .inl (.inr (.inl e2))
      · exact .inr e2
    · rcases h.sub i e with e2 | e2
      · exact .inl (.inr (.inr e2))
      · exact .inr e2⟩
theorem FT.setFK (W : World) (K : Nat) (av : Value) (fp : Nat → Prop) (j : Nat) (v : Value) : FT (FK K av fp) (FK K av fp) W (W.setCell ⟨K, j, none⟩ v) :=
  ⟨rfl, rfl, rfl, by simp, fun i _ hn => Below.heap_setCell W ⟨K, j, none⟩ _ i (fun e => hn (.inl e)), fun _ h => .inl h⟩
theorem FT.lose {fq fq' fr : Nat → Prop} (h : FT fq fq' W W') (hs : ∀ i, fr i → fq' i) : FT fq fr W W' := ⟨h.os, h.tape, h.output, h.size, h.block, fun i hi => h.sub i (hs i hi)⟩
theorem KA.turn (h : KA W K tK rest s kd size slide a fp M A av g d) (hs : SA W' s kd size slide a fp' M') (hf : FT fp fp' W W') : KA W' K tK rest s kd size slide a fp' M' A av g d := by
  have lk := h.kb.lt
  refine ⟨h.kb.back' (hf.block K lk h.nk), h.tk, hs, h.row.back (fun q e => ?_), fun e => ?_, fun q e e2 => ?_, h.ok, h.az⟩
  · obtain ⟨cur, hc⟩ := h.row.has q e
    exact hf.block q hc.lt (h.na q e)
  · rcases hf.sub K e with e2 | e2
    · exact h.nk e2
    · omega
  · obtain ⟨cur, hc⟩ := h.row.has q e
    have := hc.lt
    rcases hf.sub q e2 with e3 | e3
    · exact h.na q e e3
    · omega
theorem SA.setK (hs : SA W s kd size slide a fp M) (hk : ¬ fp K) (j : Nat) (v : Value) : SA (W.setCell ⟨K, j, none⟩ v) s kd size slide a fp M :=
  hs.back (fun i hi => Below.heap_setCell W ⟨K, j, none⟩ _ i (fun e => hk (by have e2 : i = K := e; rw [← e2]; exact hi))) (by simp)
theorem KA.setG (h : KA W K tK rest s kd size slide a fp M A av g d) (m : Int) : KA (W.setCell ⟨K, 2, none⟩ (.int .i64 m)) K tK rest s kd size slide a fp M A av m d := by
  refine ⟨?_, h.tk, h.sa.setK h.nk _ _, h.row.back (fun q e => Below.heap_setCell W ⟨K, 2, none⟩ _ q (h.nq q e)), h.nk, h.na, h.ok, h.az⟩
  have h1 := BoxT.set h.kb 2 (.int .i64 m)
  simpa using h1
theorem KA.setD (h : KA W K tK rest s kd size slide a fp M A av g d) (m : Int) : KA (W.setCell ⟨K, 3, none⟩ (.int .i64 m)) K tK rest s kd size slide a fp M A av g m := by
  refine ⟨?_, h.tk, h.sa.setK h.nk _ _, h.row.back (fun q e => Below.heap_setCell W ⟨K, 3, none⟩ _ q (h.nq q e)), h.nk, h.na, h.ok, h.az⟩
  have h1 := BoxT.set h.kb 3 (.int .i64 m)
  simpa using h1
theorem KA.setA (h : KA W K tK rest s kd size slide a fp M A av g d) {A' : List Pn} {av' : Value} (hr : Row 79 4 Pn.cs 0 W av' A') (hn : ∀ q, av'.ownBlock = some q → ¬ fp q) (ho : ∀ x ∈ A', PnOk x ∧ (kd = 3 → x.f < x.t)) (hz : A' = [] → av' = .slice none 0 0) : KA (W.setCell ⟨K, 1, none⟩ av') K tK rest s kd size slide a fp M A' av' g d := by
  refine ⟨?_, h.tk, h.sa.setK h.nk _ _, hr.back (fun q e => Below.heap_setCell W ⟨K, 1, none⟩ _ q (?_ : q ≠ K)), h.nk, hn, ho, hz⟩
  · have h1 := BoxT.set h.kb 1 av'
    simpa using h1
  · obtain ⟨cur, hc⟩ := hr.has q e
    refine BoxT.ne' hc h.kb ?_
    rcases h.tk with rfl | rfl <;> decide
end
theorem below_grown {B : Nat} {a w w' : World} {r : Option Nat} (hb : Below B a w) (hg : w.grownBy w' r) (hs : a.heap.size = B) (hr : ∀ q, r = some q → B ≤ q) : Below B a w' :=
  ⟨hg.os.trans hb.os, hg.tape.trans hb.tape, hg.output.trans hb.output, Nat.le_trans hb.size hg.size, fun i hi => (hg.block i (by have := hb.size; omega) (fun e => by have := hr i e.symm; omega)).trans (hb.block i hi)⟩
theorem step_rowS {w : World} {ops : Array Oper} {o : Oper} {a : Act} {K : Act → World → Prop} {Q : Exit → Act → World → Prop} {E : Prop} (hgd : o.guard = none) (s x : Operand)
    (ho : o.op = .call { callee := .builtin .append, args := #[s, x], argTypes := #[47, 47] }) (base : Nat) (v : Value) (xs : List Pn) (hs : a.eval s = v) (hown : Row 79 4 Pn.cs base w v xs)
    (B : Nat) (v2 : Value) (ys : List Pn) (hx : a.eval x = v2) (hseg : LSeg 4 Pn.cs B w v2 ys) (hl : xs.length + ys.length ≤ 1000000) (hbase : base ≤ w.heap.size)
    (h : ∀ v' w', Row 79 4 Pn.cs base w' v' (xs ++ ys) → w.grownBy w' v.ownBlock → (∀ g, v'.ownBlock = some g → v.ownBlock = some g ∨ w.heap.size ≤ g) → K (a.put o.dst v') w') :
    if Region.wanted o (yielded ops a.tmps) = true then Oper.wp Tryz.prog o a w K Q else E := by
  have hw : Region.wanted o (yielded ops a.tmps) = true := by simp [Region.wanted, hgd]
  rw [if_pos hw]
  obtain ⟨v', w', hr, h2, h3, h4⟩ := run_panesS o.type base hown hseg hl hbase
  unfold Oper.wp execOp
  simp only [ho, resolve, invoke, builtin, Sem.run_bind, Sem.run_pure, Result.andThen_ok, List.map_toArray, List.map_cons, List.map_nil, hs, hx, hr]
  exact h v' w' h2 h3 h4
theorem app_rowS {w : World} {ops : Array Oper} {rest : List Oper} {o : Oper} {a : Act} {Q : Exit → Act → World → Prop} (hgd : o.guard = none) (s x : Operand)
    (ho : o.op = .call { callee := .builtin .append, args := #[s, x], argTypes := #[47, 47] }) (base : Nat) (v : Value) (xs : List Pn) (hs : a.eval s = v) (hown : Row 79 4 Pn.cs base w v xs)
    (B : Nat) (v2 : Value) (ys : List Pn) (hx : a.eval x = v2) (hseg : LSeg 4 Pn.cs B w v2 ys) (hl : xs.length + ys.length ≤ 1000000) (hbase : base ≤ w.heap.size)
    (h : ∀ v' w', Row 79 4 Pn.cs base w' v' (xs ++ ys) → w.grownBy w' v.ownBlock → (∀ g, v'.ownBlock = some g → v.ownBlock = some g ∨ w.heap.size ≤ g) → wpList Tryz.prog ops Q rest (a.put o.dst v') w') : wpList Tryz.prog ops Q (o :: rest) a w := by
  refine wpList_plain hgd fun Kc hK => ?_
  obtain ⟨v', w', hr, h2, h3, h4⟩ := run_panesS o.type base hown hseg hl hbase
  unfold Oper.wp execOp
  simp only [ho, resolve, invoke, builtin, Sem.run_bind, Sem.run_pure, Result.andThen_ok, List.map_toArray, List.map_cons, List.map_nil, hs, hx, hr]
  exact hK _ _ (h v' w' h2 h3 h4)
def StPost (W : World) (K tK : Nat) (rest : List Value) (s : Nat) (kd size slide a : Int) (fp : Nat → Prop) (M A : List Pn) (av : Value) (g d : Int) (e : Ending) (w' : World) : Prop :=
  e = .returned (.tuple #[]) ∧ ∃ fp' M', KA w' K tK rest s kd size slide a fp' M' [] (.slice none 0 0) g d ∧ FT (FK K av fp) (FK K (.slice none 0 0) fp') W w' ∧ ((A = [] ∧ M' = M) ∨ Comes (sess kd) (jn a) (srt M ++ A) M')
set_option maxHeartbeats 4000000 in
set_option maxRecDepth 100000 in
theorem settle_any {W : World} {K tK s : Nat} {rest : List Value} {kd size slide a : Int} {fp : Nat → Prop} {M A : List Pn} {av : Value} {g d : Int} (h : KA W K tK rest s kd size slide a fp M A av g d) (hn : M.length + A.length ≤ 90000) (hM : kd = 3 → ∀ x ∈ M, x.f < x.t) :
    Calls Tryz.prog 93 #[.pointer (some ⟨K, 0, none⟩)] W (StPost W K tK rest s kd size slide a fp M A av g d) := by
  have c1 := h.c1
  by_cases hA : A = []
  · have e := h.az hA
    subst e
    have H := hide h
    have HA := hide hA
    clear h hA hn hM
    go_enter Tryz.func93, Tryz.ntmps93
    go_wp2_with fail
    refine bodyPost_ret (v := .tuple #[]) (by simp [results, Tryz.results93, go_sem]) rfl ⟨rfl, fp, M, ?_, FT.refl _ _, .inl ⟨HA.out, rfl⟩⟩
    have := H.out
    rw [HA.out] at this
    exact this
  have hpos : 0 < A.length := List.length_pos_iff.2 hA
  have hne : (((A.length : Nat) : Int) == 0) = false := by rw [beq_eq_false_iff_ne]; omega
  obtain ⟨aa, ac, rfl⟩ := h.row.shape
  have hd : Below W.heap.size W W.drew := (Below.refl _ _).drew
  have HP := hide (Panes_any (h.sa.below hd) (by omega))
  have H := hide h
  have HM := hide hM
  have HNN := hide hn
  have hokM : ∀ x ∈ M, PnOk x := by
    obtain ⟨m, o, fq, R, hst, _⟩ := h.sa
    exact hst.ok
  have HOK := hide (show ∀ x ∈ srt M ++ A, PnOk x ∧ (kd = 3 → x.f < x.t) from fun x hx => by
    rcases List.mem_append.1 hx with hx | hx
    · have hx2 := (srt_perm M).mem_iff.1 hx
      exact ⟨hokM x hx2, fun e => hM e x hx2⟩
    · exact h.ok x hx)
  have KC := hide (show ∀ w' : World, Below W.heap.size W w' → w'.cell? ⟨K, 0, none⟩ = some (.pointer (some ⟨s, 0, none⟩)) ∧ w'.cell? ⟨K, 1, none⟩ = some (.slice aa A.length ac) from fun w' hb => ⟨(h.below hb).c0, (h.below hb).c1⟩)
  have HL := hide (show (srt M).length = M.length from srt_len M)
  clear h hM hn hokM hA
  go_enter Tryz.func93, Tryz.ntmps93
  go_upto_region 1 with fail
  clear c1
  refine wp_region_M (S := fun w' => w'.cell? ⟨K, 0, none⟩ = some (.pointer (some ⟨s, 0, none⟩)) ∧ w'.cell? ⟨K, 1, none⟩ = some (.slice aa A.length ac)) (late := []) (by kernel_rfl) (KC.out _ (Below.refl _ _).drew) (fun hH => ?_)
  (try simp only [List.size_toArray, List.length_cons, List.length_nil, Nat.zero_add, Nat.reduceAdd, Array.replicate, List.replicate])
  refine tkA 0 hH ?_
  (try simp only [Act.put, List.setIfInBounds_toArray, List.set_cons_zero, List.set_cons_succ])
  refine tkA 1 hH ?_
  (try simp only [Act.put, List.setIfInBounds_toArray, List.set_cons_zero, List.set_cons_succ])
  refine tkA 2 hH ?_
  (try simp only [Act.put, List.setIfInBounds_toArray, List.set_cons_zero, List.set_cons_succ])
  refine tkA 3 hH ?_
  (try simp only [Act.put, List.setIfInBounds_toArray, List.set_cons_zero, List.set_cons_succ])
  refine tkA 4 hH ?_
  (try simp only [Act.put, List.setIfInBounds_toArray, List.set_cons_zero, List.set_cons_succ])
  refine tkA 5 hH ?_
  (try simp only [Act.put, List.setIfInBounds_toArray, List.set_cons_zero, List.set_cons_succ])
  refine tkA 6 hH ?_
  (try simp only [Act.put, List.setIfInBounds_toArray, List.set_cons_zero, List.set_cons_succ])
  refine tkA 7 hH ?_
  (try simp only [Act.put, List.setIfInBounds_toArray, List.set_cons_zero, List.set_cons_succ])
  refine tkA 9 hH ?_
  (try simp only [Act.put, List.setIfInBounds_toArray, List.set_cons_zero, List.set_cons_succ])
  refine tkA 10 hH ?_
  (try simp only [Act.put, List.setIfInBounds_toArray, List.set_cons_zero, List.set_cons_succ])
  refine tkA 11 hH ?_
  (try simp only [Act.put, List.setIfInBounds_toArray, List.set_cons_zero, List.set_cons_succ])
  refine tkA 12 hH ?_
  (try simp only [Act.put, List.setIfInBounds_toArray, List.set_cons_zero, List.set_cons_succ])
  refine wpAnyM_one (i := 8) (o := ⟨_, _, _, _, _, _⟩) (by kernel_rfl) rfl (fun Kc hK => ?_)
  go_simp
  go_at_call 96
  refine (HP.out).mono ?_
  rintro e w2 ⟨u, rfl, r2, b2⟩
  have B2 := hide (show Below W.heap.size W w2 from (Below.refl _ _).drew.trans b2)
  have R2 := hide r2
  have S2 := hide ((H.out.below B2.out).seg (by have := HNN.out; omega))
  clear r2 b2
  refine hK.out _ _ (KC.out _ B2.out) (fun hH => ?_)
  clear hK Kc
  (try simp only [List.setIfInBounds_toArray, List.set_cons_zero, List.set_cons_succ])
  refine wpAnyM_one (i := 13) (o := ⟨_, _, _, _, _, _⟩) (by kernel_rfl) rfl (fun Kc hK => ?_)
  refine step_rowS rfl _ _ rfl W.heap.size u (srt M) rfl R2.out _ _ A rfl S2.out (by have := HL.out; have := HNN.out; omega) B2.out.size ?_
  intro v3 w3 r3 g3 q3
  have B3 := hide (below_grown B2.out g3 rfl (fun q e => R2.out.at q e))
  have R3 := hide r3
  clear r3 g3 q3 S2
  refine hK.out _ _ (KC.out _ B3.out) (fun hH => ?_)
  clear hK Kc
  (try simp only [List.setIfInBounds_toArray, List.set_cons_zero, List.set_cons_succ])
  have H3 := hide (H.out.below B3.out)
  have HLD := hide (Load_any H3.out.sa (R3.out.seg Pn.cs_len (by have := HL.out; have := HNN.out; simp; omega)) (fun q e e2 => by have := R3.out.at q e; have := H.out.sa.flt q e2; omega) HOK.out (by have := HL.out; have := HNN.out; simp; omega))
  refine wpAnyM_one (i := 14) (o := ⟨_, _, _, _, _, _⟩) (by kernel_rfl) rfl (fun Kc hK => ?_)
  go_simp
  go_at_call 94
  refine (HLD.out).mono ?_
  rintro e w5 ⟨rfl, fp5, M5, s5, t5, c5⟩
  have H5 := hide (H3.out.turn s5 t5)
  have T5 := hide (t5.fk K (av := .slice aa A.length ac) (av' := .slice aa A.length ac) (fun i e => .inl e))
  have C5 := hide c5
  clear s5 t5 c5
  refine hK.out _ _ ((show _ ∧ _ from ⟨H5.out.c0, H5.out.c1⟩)) (fun hH => ?_)
  clear hK Kc
  (try simp only [List.setIfInBounds_toArray, List.set_cons_zero, List.set_cons_succ])
  refine wpAnyM_done (by kernel_rfl) ?_ _
  have fr := BoxT.free H5.out.kb
  go_wp2_with fail
  refine bodyPost_ret (v := .tuple #[]) (by simp [results, Tryz.results93, go_sem]) rfl ⟨rfl, fp5, M5, H5.out.setA (Row.nil _ _ _ _ _) (fun q e => by cases e) (fun x hx => by cases hx) (fun _ => rfl), ?_, .inr C5.out⟩
  refine FT.lose (((FT.of_below (fp := FK K (.slice aa A.length ac) fp) B3.out).trans T5.out).trans (FT.setFK _ K _ fp5 1 _)) (fun i hi => ?_)
  rcases hi with e | e | e
  · exact .inl e
  · cases e
  · exact .inr (.inr e)

end Go.Proofs.YtpcbhcdpegbfjaaGreat

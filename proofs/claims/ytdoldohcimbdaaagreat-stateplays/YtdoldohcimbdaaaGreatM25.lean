/-
  Texts in build order: SLay.
-/
import Derived.Test.YtdoldohcimbdaaaGreatM24
/-
  lay: a pane becomes one with what lies at its place; a session's, with all that it overlaps.
-/
namespace Go.Proofs.YtdoldohcimbdaaaGreat
open Go.RowKit

def sess (k : Int) : Bool := decide (k = 3)
theorem whl_in {l : List Sp} {f t : Int} {a b : Nat} (hf : In64 f) (ht : In64 t) (hl : ∀ sp ∈ l, In64 sp.f ∧ In64 sp.t) : In64 (whl ⟨f, t⟩ l a b).f ∧ In64 (whl ⟨f, t⟩ l a b).t := by
  have h : ∀ (g : List Sp) (s : Sp), In64 s.f → In64 s.t → (∀ x ∈ g, In64 x.f ∧ In64 x.t) → In64 (g.foldl jsp s).f ∧ In64 (g.foldl jsp s).t := by
    intro g
    induction g with
    | nil => intro s h1 h2 _; exact ⟨h1, h2⟩
    | cons x g ih =>
      intro s h1 h2 h3
      have hx := h3 x (List.mem_cons_self ..)
      exact ih _ (by unfold In64 at *; simp only [jsp]; omega) (by unfold In64 at *; simp only [jsp]; omega) (fun y hy => h3 y (List.mem_cons_of_mem _ hy))
  exact h _ _ hf ht (fun x hx => hl x (List.mem_of_mem_take (List.mem_of_mem_drop hx)))
theorem foldJ_in {ag : Int} (G : List Pn) : ∀ c, In64 c → (∀ x ∈ G, In64 x.a) → In64 (G.foldl (fun a x => jn ag x.a a) c) := by
  induction G with
  | nil => intro c h _; exact h
  | cons x G ih => intro c h h2; exact ih _ (jn_in (h2 x (List.mem_cons_self ..)) h) (fun y hy => h2 y (List.mem_cons_of_mem _ hy))
theorem Inv.plain {kd : Int} {M : List Pn} {R : List SRow} (h : Inv kd M R) (hkd : kd ≠ 3) (M' : List Pn) : Inv kd M' R := by
  have hR := h.none hkd
  subst hR
  exact ⟨fun _ => rfl, fun e => absurd e hkd, fun r hr => (by cases hr), fun r hr => (by cases hr)⟩
structure LI (w wr : World) (s m o : Nat) (kd size slide ag : Int) (fq fq' : Nat → Prop) (N : List Pn) (R' : List SRow) (k f t c : Int) : Prop where
  box : BoxT 76 wr s #[.int .i64 kd, .int .i64 size, .int .i64 slide, .int .i64 ag, .map (some m), .map (some o)]
  mp : MapAt Tryz.prog 89 wr m (N.map pEnt)
  om : OM wr o fq' R'
  ft : FT (FP s m fq) (FP s m fq') w wr
  bp : BoxT 70 wr w.heap.size #[.int .i64 k, .int .i64 f, .int .i64 t, .int .i64 c]
  ns : ¬ fq' s
  nm : ¬ fq' m
  n1 : ¬ fq' w.heap.size
  sl : s < w.heap.size
  ml : m < w.heap.size
section
variable {w wr w' : World} {s m o : Nat} {kd size slide ag : Int} {fq fq' : Nat → Prop} {R' : List SRow} {N : List Pn} {k f t c : Int}
theorem LI.below (h : LI w wr s m o kd size slide ag fq fq' N R' k f t c) (hb : Below wr.heap.size wr w') : LI w w' s m o kd size slide ag fq fq' N R' k f t c :=
  { h with box := BoxT.below (t := 76) h.box hb, mp := h.mp.back (hb.block _ h.mp.lt), om := h.om.below hb, ft := h.ft.trans (FT.of_below hb), bp := BoxT.below (t := 70) h.bp hb }
theorem LI.cells (h : LI w wr s m o kd size slide ag fq fq' N R' k f t c) : wr.cell? ⟨s, 3, none⟩ = some (.int .i64 ag) ∧ wr.cell? ⟨s, 4, none⟩ = some (.map (some m)) ∧ wr.cell? ⟨w.heap.size, 3, none⟩ = some (.int .i64 c) := by
  have h1 := h.box
  have h2 := h.bp
  unfold BoxT at h1 h2
  simp [World.cell?, h1, h2]
/-- The pane in its box is turned. -/
theorem LI.set (h : LI w wr s m o kd size slide ag fq fq' N R' k f t c) (hg : wr.grownBy w' (some w.heap.size)) {k' f' t' c' : Int} (hb : BoxT 70 w' w.heap.size #[.int .i64 k', .int .i64 f', .int .i64 t', .int .i64 c']) : LI w w' s m o kd size slide ag fq fq' N R' k' f' t' c' := by
  have ho : ∀ i, i ≠ w.heap.size → i < wr.heap.size → w'.heap[i]? = wr.heap[i]? := fun i hi hl => hg.block i hl (fun e => hi (by cases e; rfl))
  have hsl := h.sl
  have hml := h.ml
  exact { h with box := h.box.grown hg (by omega), mp := h.mp.back (ho m (by omega) h.mp.lt), om := h.om.back (fun i hi => ho i (fun e => h.n1 (e ▸ hi)) (h.om.flt i hi)) hg.size, ft := ⟨hg.os.trans h.ft.os, hg.tape.trans h.ft.tape, hg.output.trans h.ft.output, Nat.le_trans h.ft.size hg.size, fun i hi hn => (ho i (by omega) (Nat.lt_of_lt_of_le hi h.ft.size)).trans (h.ft.block i hi hn), h.ft.sub⟩, bp := hb }
theorem LI.fin (h : LI w wr s m o kd size slide ag fq fq' N R' k f t c) {N' : List Pn} (hm : MapAt Tryz.prog 89 w' m (N'.map pEnt)) (ht : MTurn wr w' m) (hok : ∀ x ∈ N', PnOk x) (hinv : Inv kd N' R') : StAt w' s m o kd size slide ag fq' N' R' ∧ FT (FP s m fq) (FP s m fq') w w' := by
  have hg := ht.grown
  have ho : ∀ i, i ≠ m → w'.heap[i]? = wr.heap[i]? := fun i hi => ht.other hi
  have hsm : s ≠ m := fun e => by
    obtain ⟨es, ck, h1⟩ := h.mp.isMap
    have h2 := h.box
    unfold BoxT at h2
    rw [e, h1] at h2
    cases h2
  refine ⟨⟨?_, hm, h.om.back (fun i hi => ho i (fun e => h.nm (e ▸ hi))) hg.size, hok, h.ns, h.nm, hinv⟩, ⟨hg.os.trans h.ft.os, hg.tape.trans h.ft.tape, hg.output.trans h.ft.output, Nat.le_trans h.ft.size hg.size, fun i hi hn => (ho i (fun e => hn (.inr (.inl e)))).trans (h.ft.block i hi hn), h.ft.sub⟩⟩
  have h1 := ho s hsm
  have h2 := h.box
  unfold BoxT at *
  rw [h1]; exact h2
end
/-- What region 4 reads. -/
def L4 (s m P : Nat) (k f t xa : Int) (is : Bool) (w' : World) : Prop := w'.cell? ⟨s, 4, none⟩ = some (.map (some m)) ∧ w'.cell? ⟨P, 0, none⟩ = some (.int .i64 k) ∧ w'.cell? ⟨P, 1, none⟩ = some (.int .i64 f) ∧ w'.cell? ⟨P, 2, none⟩ = some (.int .i64 t) ∧ (Instr.lookup 72 (.map (some m)) (.agg #[.int .i64 k, .int .i64 f, .int .i64 t]) true).run Tryz.prog w' = .ok (.tuple #[.int .i64 xa, .bool is]) w'
def L6 (s K : Nat) (ag c : Int) (w' : World) : Prop := w'.cell? ⟨s, 3, none⟩ = some (.int .i64 ag) ∧ w'.cell? ⟨K, 3, none⟩ = some (.int .i64 c)
def L7 (s m P K : Nat) (k f t c : Int) (w' : World) : Prop := w'.cell? ⟨s, 4, none⟩ = some (.map (some m)) ∧ w'.cell? ⟨P, 0, none⟩ = some (.int .i64 k) ∧ w'.cell? ⟨P, 1, none⟩ = some (.int .i64 f) ∧ w'.cell? ⟨P, 2, none⟩ = some (.int .i64 t) ∧ w'.cell? ⟨K, 3, none⟩ = some (.int .i64 c)
theorem Tryz.zeroI (w : World) : (zeroValue 2).run Tryz.prog w = .ok (.int .i64 0) w := by kernel_rfl
def LPost (w : World) (s m o : Nat) (kd size slide ag : Int) (fq : Nat → Prop) (M : List Pn) (p : Pn) (e : Ending) (w' : World) : Prop := e = .returned (.tuple #[]) ∧ ∃ fq' M' R', StAt w' s m o kd size slide ag fq' M' R' ∧ FT (FP s m fq) (FP s m fq') w w' ∧ Comes (sess kd) (jn ag) (p :: M) M'
set_option maxHeartbeats 8000000 in
set_option maxRecDepth 100000 in
theorem lay_plain {w : World} {s m o : Nat} {kd size slide ag : Int} {fq : Nat → Prop} {M : List Pn} {R : List SRow} (h : StAt w s m o kd size slide ag fq M R) (hkd : kd ≠ 3) {k f t c : Int} (hp : PnOk ⟨k, f, t, c⟩) :
    Calls Tryz.prog 28 #[.pointer (some ⟨s, 0, none⟩), .agg #[.int .i64 k, .int .i64 f, .int .i64 t, .int .i64 c]] w (LPost w s m o kd size slide ag fq M ⟨k, f, t, c⟩) := by
  have hb1 := below_box w (.cells #[.int .i64 k, .int .i64 f, .int .i64 t, .int .i64 c] 70)
  have HL : Hid (LI w (w.alloc (.cells #[.int .i64 k, .int .i64 f, .int .i64 t, .int .i64 c] 70)) s m o kd size slide ag fq fq M R k f t c) :=
    ⟨BoxT.below (t := 76) h.box hb1, h.mp.back (hb1.block m h.mp.lt), h.om.below hb1, FT.of_below hb1, BoxT.new _ _ _, h.ns, h.nm, fun e => by have := h.om.flt _ e; omega, h.box.lt, h.mp.lt⟩
  have HKEY := hide (keyPl hp.k hp.f hp.t)
  have HST := hide h
  have HP := hide hp
  have hk1 : (w.alloc (.cells #[.int .i64 k, .int .i64 f, .int .i64 t, .int .i64 c] 70)).cell? ⟨s, 0, none⟩ = some (.int .i64 kd) := by have := HL.out.box.cellAt 0; simpa using this
  have d3 : ¬ kd = 3 := hkd
  obtain ⟨fq', hfq⟩ : ∃ fq', fq' = fq := ⟨_, rfl⟩
  obtain ⟨N, hN⟩ : ∃ N, N = M := ⟨_, rfl⟩
  obtain ⟨R', hR⟩ : ∃ R', R' = R := ⟨_, rfl⟩
  have HEQ := hide (And.intro hfq (And.intro hN hR))
  have hsess : sess kd = false := decide_eq_false hkd
  have HSE := hide hsess
  rw [show LI w (w.alloc (.cells #[.int .i64 k, .int .i64 f, .int .i64 t, .int .i64 c] 70)) s m o kd size slide ag fq fq M R k f t c = LI w (w.alloc (.cells #[.int .i64 k, .int .i64 f, .int .i64 t, .int .i64 c] 70)) s m o kd size slide ag fq fq' N R' k f t c by rw [hfq, hN, hR]] at HL
  clear h hb1 hfq hN hR hsess hp
  by_cases hx : ∃ x ∈ N, x.k = k ∧ x.f = f ∧ x.t = t
  · obtain ⟨x, hxN, x1, x2, x3⟩ := hx
    obtain ⟨u, v, huv⟩ := List.append_of_mem hxN
    obtain ⟨xk, xf, xt, xa⟩ := x
    simp only at x1 x2 x3
    have e1 := x1.symm
    have e2 := x2.symm
    have e3 := x3.symm
    clear x1 x2 x3
    subst e1 e2 e3
    obtain ⟨N0, hN0⟩ : ∃ N0, N0 = u ++ v := ⟨_, rfl⟩
    have HN0 : Hid (N.Perm (⟨k, f, t, xa⟩ :: N0)) := (show List.Perm _ _ by rw [huv, hN0]; exact List.perm_middle)
    clear huv hN0 hxN
    go_enter Tryz.func28, Tryz.ntmps28
    obtain ⟨b0, b1, b2, b3⟩ := HL.out.bp.cells4
    have HPO := hide (fun w' => placeOf_any w' ⟨k, f, t, c⟩)
    unfold Pn.val plV at HPO
    simp only at HPO
    go_upto_region 4 with (first | (go_at_call 38; refine (HPO.out _).mono ?_; rintro e w3 ⟨rfl, b3'⟩; have H3 := hide (HL.out.below b3'); clear b3') | fail)
    obtain ⟨W4, hW4⟩ : ∃ W4, W4 = w3.alloc (.cells #[.int .i64 k, .int .i64 f, .int .i64 t] 89) := ⟨_, rfl⟩
    rw [← hW4]
    have H4 : Hid (LI w W4 s m o kd size slide ag fq fq' N R' k f t c) := (show LI _ _ _ _ _ _ _ _ _ _ _ _ _ _ _ _ _ by rw [hW4]; exact H3.out.below (below_box w3 _))
    have P4 : Hid (BoxT 89 W4 w3.heap.size #[.int .i64 k, .int .i64 f, .int .i64 t]) := (show BoxT _ _ _ _ by rw [hW4]; exact BoxT.new _ _ _)
    clear hW4 b0 b1 b2 b3 HPO
    have HK4 : Hid (∀ w', Below W4.heap.size W4 w' → L4 s m w3.heap.size k f t xa true w') := fun w' hb => by
      have h1 := H4.out.below hb
      obtain ⟨p0, p1, p2⟩ := (BoxT.below (t := 89) P4.out hb).cells3
      obtain ⟨lk, hlk⟩ := HKEY.out
      exact ⟨h1.cells.2.1, p0, p1, p2, h1.mp.look_hit Tryz.lawPl Tryz.underlying72 hlk (R := N0.map pEnt) (by have := HN0.out.map pEnt; rwa [List.map_cons] at this) true⟩
    refine wp_region_M (S := fun w' => L4 s m w3.heap.size k f t xa true w') (late := []) (by kernel_rfl) (HK4.out _ (Below.refl _ _).drew) (fun hHeld => ?_)
    (try simp only [List.size_toArray, List.length_cons, List.length_nil, Nat.zero_add, Nat.reduceAdd, Array.replicate, List.replicate])
    refine wpAnyM_take (i := 0) (oi := ⟨_, _, _, _, _, _⟩) (v := ?_) rfl (by kernel_rfl) (by kernel_rfl) (by kernel_rfl) (by kernel_rfl) (fun _ _ _ h => h) (Or.inl ⟨by rfl, ?_⟩) hHeld ?_
    rotate_left
    · (intro w' hSw; unfold L4 at hSw; go_simp; try (with_reducible rfl))
    (try simp only [Act.put, List.setIfInBounds_toArray, List.set_cons_zero, List.set_cons_succ])
    refine wpAnyM_take (i := 1) (oi := ⟨_, _, _, _, _, _⟩) (v := ?_) rfl (by kernel_rfl) (by kernel_rfl) (by kernel_rfl) (by kernel_rfl) (fun _ _ _ h => h) (Or.inl ⟨by rfl, ?_⟩) hHeld ?_
    rotate_left
    · (intro w' hSw; unfold L4 at hSw; go_simp; try (with_reducible rfl))
    (try simp only [Act.put, List.setIfInBounds_toArray, List.set_cons_zero, List.set_cons_succ])
    refine wpAnyM_take (i := 2) (oi := ⟨_, _, _, _, _, _⟩) (v := ?_) rfl (by kernel_rfl) (by kernel_rfl) (by kernel_rfl) (by kernel_rfl) (fun _ _ _ h => h) (Or.inl ⟨by rfl, ?_⟩) hHeld ?_
    rotate_left
    · (intro w' hSw; unfold L4 at hSw; go_simp; try (with_reducible rfl))
    (try simp only [Act.put, List.setIfInBounds_toArray, List.set_cons_zero, List.set_cons_succ])
    refine wpAnyM_take (i := 3) (oi := ⟨_, _, _, _, _, _⟩) (v := ?_) rfl (by kernel_rfl) (by kernel_rfl) (by kernel_rfl) (by kernel_rfl) (fun _ _ _ h => h) (Or.inl ⟨by rfl, ?_⟩) hHeld ?_
    rotate_left
    · (intro w' hSw; unfold L4 at hSw; go_simp; try (with_reducible rfl))
    (try simp only [Act.put, List.setIfInBounds_toArray, List.set_cons_zero, List.set_cons_succ])
    refine wpAnyM_take (i := 4) (oi := ⟨_, _, _, _, _, _⟩) (v := ?_) rfl (by kernel_rfl) (by kernel_rfl) (by kernel_rfl) (by kernel_rfl) (fun _ _ _ h => h) (Or.inl ⟨by rfl, ?_⟩) hHeld ?_
    rotate_left
    · (intro w' hSw; unfold L4 at hSw; go_simp; try (with_reducible rfl))
    (try simp only [Act.put, List.setIfInBounds_toArray, List.set_cons_zero, List.set_cons_succ])
    refine wpAnyM_take (i := 5) (oi := ⟨_, _, _, _, _, _⟩) (v := ?_) rfl (by kernel_rfl) (by kernel_rfl) (by kernel_rfl) (by kernel_rfl) (fun _ _ _ h => h) (Or.inl ⟨by rfl, ?_⟩) hHeld ?_
    rotate_left
    · (intro w' hSw; unfold L4 at hSw; go_simp; try (with_reducible rfl))
    (try simp only [Act.put, List.setIfInBounds_toArray, List.set_cons_zero, List.set_cons_succ])
    refine wpAnyM_take (i := 6) (oi := ⟨_, _, _, _, _, _⟩) (v := ?_) rfl (by kernel_rfl) (by kernel_rfl) (by kernel_rfl) (by kernel_rfl) (fun _ _ _ h => h) (Or.inl ⟨by rfl, ?_⟩) hHeld ?_
    rotate_left
    · (intro w' hSw; unfold L4 at hSw; go_simp; try (with_reducible rfl))
    (try simp only [Act.put, List.setIfInBounds_toArray, List.set_cons_zero, List.set_cons_succ])
    refine wpAnyM_take (i := 7) (oi := ⟨_, _, _, _, _, _⟩) (v := ?_) rfl (by kernel_rfl) (by kernel_rfl) (by kernel_rfl) (by kernel_rfl) (fun _ _ _ h => h) (Or.inl ⟨by rfl, ?_⟩) hHeld ?_
    rotate_left
    · (intro w' hSw; unfold L4 at hSw; go_simp; try (with_reducible rfl))
    (try simp only [Act.put, List.setIfInBounds_toArray, List.set_cons_zero, List.set_cons_succ])
    refine wpAnyM_take (i := 8) (oi := ⟨_, _, _, _, _, _⟩) (v := ?_) rfl (by kernel_rfl) (by kernel_rfl) (by kernel_rfl) (by kernel_rfl) (fun _ _ _ h => h) (Or.inl ⟨by rfl, ?_⟩) hHeld ?_
    rotate_left
    · (intro w' hSw; unfold L4 at hSw; go_simp; try (with_reducible rfl))
    (try simp only [Act.put, List.setIfInBounds_toArray, List.set_cons_zero, List.set_cons_succ])
    refine wpAnyM_take (i := 9) (oi := ⟨_, _, _, _, _, _⟩) (v := ?_) rfl (by kernel_rfl) (by kernel_rfl) (by kernel_rfl) (by kernel_rfl) (fun _ _ _ h => h) (Or.inl ⟨by rfl, ?_⟩) hHeld ?_
    rotate_left
    · (intro w' hSw; unfold L4 at hSw; go_simp; try (with_reducible rfl))
    (try simp only [Act.put, List.setIfInBounds_toArray, List.set_cons_zero, List.set_cons_succ])
    refine wpAnyM_take (i := 10) (oi := ⟨_, _, _, _, _, _⟩) (v := ?_) rfl (by kernel_rfl) (by kernel_rfl) (by kernel_rfl) (by kernel_rfl) (fun _ _ _ h => h) (Or.inl ⟨by rfl, ?_⟩) hHeld ?_
    rotate_left
    · (intro w' hSw; unfold L4 at hSw; go_simp; try (with_reducible rfl))
    (try simp only [Act.put, List.setIfInBounds_toArray, List.set_cons_zero, List.set_cons_succ])
    refine wpAnyM_done (by kernel_rfl) ?_ _
    go_upto_region 6 with fail
    have HMG : Hid (∀ w', Below W4.heap.size W4 w' → Calls Tryz.prog 52 #[.int .i64 ag, .int .i64 xa, .int .i64 c] w' fun e w'' => e = .returned (.int .i64 (jn ag xa c)) ∧ Below W4.heap.size W4 w'') := fun w' hb => (Merge_any w' ag xa c).mono (by rintro e w'' ⟨rfl, h2⟩; exact ⟨rfl, hb.trans (h2.mono hb.size)⟩)
    generalize hJ : jn ag xa c = J at *
    have HJ := hide hJ
    clear hJ
    have HK6 : Hid (∀ w', Below W4.heap.size W4 w' → L6 s w.heap.size ag c w') := fun w' hb => ⟨(H4.out.below hb).cells.1, (H4.out.below hb).cells.2.2⟩
    refine wp_region_M (S := fun w' => L6 s w.heap.size ag c w') (late := [9]) (by kernel_rfl) (HK6.out _ ((Below.refl _ _).drew.drew)) (fun hHeld => ?_)
    (try simp only [List.size_toArray, List.length_cons, List.length_nil, Nat.zero_add, Nat.reduceAdd, Array.replicate, List.replicate])
    refine wpAnyM_take (i := 0) (oi := ⟨_, _, _, _, _, _⟩) (v := ?_) rfl (by kernel_rfl) (by kernel_rfl) (by kernel_rfl) (by kernel_rfl) (fun _ _ _ h => h) (Or.inl ⟨by rfl, ?_⟩) hHeld ?_
    rotate_left
    · (intro w' hSw; unfold L6 at hSw; go_simp; try (with_reducible rfl))
    (try simp only [Act.put, List.setIfInBounds_toArray, List.set_cons_zero, List.set_cons_succ])
    refine wpAnyM_take (i := 1) (oi := ⟨_, _, _, _, _, _⟩) (v := ?_) rfl (by kernel_rfl) (by kernel_rfl) (by kernel_rfl) (by kernel_rfl) (fun _ _ _ h => h) (Or.inl ⟨by rfl, ?_⟩) hHeld ?_
    rotate_left
    · (intro w' hSw; unfold L6 at hSw; go_simp; try (with_reducible rfl))
    (try simp only [Act.put, List.setIfInBounds_toArray, List.set_cons_zero, List.set_cons_succ])
    refine wpAnyM_take (i := 2) (oi := ⟨_, _, _, _, _, _⟩) (v := ?_) rfl (by kernel_rfl) (by kernel_rfl) (by kernel_rfl) (by kernel_rfl) (fun _ _ _ h => h) (Or.inl ⟨by rfl, ?_⟩) hHeld ?_
    rotate_left
    · (intro w' hSw; unfold L6 at hSw; go_simp; try (with_reducible rfl))
    (try simp only [Act.put, List.setIfInBounds_toArray, List.set_cons_zero, List.set_cons_succ])
    refine wpAnyM_take (i := 3) (oi := ⟨_, _, _, _, _, _⟩) (v := ?_) rfl (by kernel_rfl) (by kernel_rfl) (by kernel_rfl) (by kernel_rfl) (fun _ _ _ h => h) (Or.inl ⟨by rfl, ?_⟩) hHeld ?_
    rotate_left
    · (intro w' hSw; unfold L6 at hSw; go_simp; try (with_reducible rfl))
    (try simp only [Act.put, List.setIfInBounds_toArray, List.set_cons_zero, List.set_cons_succ])
    refine wpAnyM_take (i := 4) (oi := ⟨_, _, _, _, _, _⟩) (v := ?_) rfl (by kernel_rfl) (by kernel_rfl) (by kernel_rfl) (by kernel_rfl) (fun _ _ _ h => h) (Or.inl ⟨by rfl, ?_⟩) hHeld ?_
    rotate_left
    · (intro w' hSw; unfold L6 at hSw; go_simp; try (with_reducible rfl))
    (try simp only [Act.put, List.setIfInBounds_toArray, List.set_cons_zero, List.set_cons_succ])
    refine wpAnyM_take (i := 5) (oi := ⟨_, _, _, _, _, _⟩) (v := ?_) rfl (by kernel_rfl) (by kernel_rfl) (by kernel_rfl) (by kernel_rfl) (fun _ _ _ h => h) (Or.inl ⟨by rfl, ?_⟩) hHeld ?_
    rotate_left
    · (intro w' hSw; unfold L6 at hSw; go_simp; try (with_reducible rfl))
    (try simp only [Act.put, List.setIfInBounds_toArray, List.set_cons_zero, List.set_cons_succ])
    refine wpAnyM_take (i := 6) (oi := ⟨_, _, _, _, _, _⟩) (v := ?_) rfl (by kernel_rfl) (by kernel_rfl) (by kernel_rfl) (by kernel_rfl) (fun _ _ _ h => h) (Or.inl ⟨by rfl, ?_⟩) hHeld ?_
    rotate_left
    · (intro w' hSw; unfold L6 at hSw; go_simp; try (with_reducible rfl))
    (try simp only [Act.put, List.setIfInBounds_toArray, List.set_cons_zero, List.set_cons_succ])
    refine wpAnyM_one (i := 7) (o := ⟨_, _, _, _, _, _⟩) (by kernel_rfl) rfl (fun K hK => ?_)
    go_simp
    go_at_call 52
    refine (HMG.out _ ((Below.refl _ _).drew.drew)).mono ?_
    rintro e w5 ⟨rfl, b5⟩
    have B5 := hide b5
    refine hK.out _ _ (HK6.out _ b5) (fun hHeld => ?_)
    clear hK K b5
    (try simp only [List.setIfInBounds_toArray, List.set_cons_zero, List.set_cons_succ])
    refine wpAnyM_take (i := 8) (oi := ⟨_, _, _, _, _, _⟩) (v := ?_) rfl (by kernel_rfl) (by kernel_rfl) (by kernel_rfl) (by kernel_rfl) (fun _ _ _ h => h) (Or.inl ⟨by rfl, ?_⟩) hHeld ?_
    rotate_left
    · (intro w' hSw; unfold L6 at hSw; go_simp; try (with_reducible rfl))
    (try simp only [Act.put, List.setIfInBounds_toArray, List.set_cons_zero, List.set_cons_succ])
    have H5 := hide (H4.out.below B5.out)
    have hf5 := fun j => H5.out.bp.free j
    have hc5 : w5.cell? ⟨w.heap.size, 3, none⟩ = some (.int .i64 c) := H5.out.cells.2.2
    refine wpAnyM_last (i := 9) (o := ⟨_, _, _, _, _, _⟩) (by kernel_rfl) (by kernel_rfl) rfl (fun K hK => ?_)
    go_simp
    refine hK.out _ _ ?_
    clear hK K
    (try simp only [List.setIfInBounds_toArray, List.set_cons_zero, List.set_cons_succ])
    refine wpAnyM_done (by kernel_rfl) ?_ _
    have H6 := hide (H5.out.set (grownBy_set w5 w.heap.size 3 (.int .i64 J)) (k' := k) (f' := f) (t' := t) (c' := J) (by have := H5.out.bp.set 3 (.int .i64 J); simpa using this))
    have P6 : Hid (BoxT 89 (w5.setCell ⟨w.heap.size, 3, none⟩ (.int .i64 J)) w3.heap.size #[.int .i64 k, .int .i64 f, .int .i64 t]) := (BoxT.below (t := 89) P4.out B5.out).grown (grownBy_set _ _ _ _) (by have := H3.out.bp.lt; omega)
    clear hf5 hc5 hHeld
    generalize hw6 : w5.setCell ⟨w.heap.size, 3, none⟩ (.int .i64 J) = w6 at *
    clear hw6
    go_upto_region 7 with fail
    have H7 := hide (H6.out.below ((Below.refl _ _).drew))
    obtain ⟨lk, hlk⟩ := HKEY.out
    obtain ⟨w7, hrun7, hm7, ht7⟩ := H7.out.mp.store_old (v := .int .i64 J) Tryz.lawPl Tryz.underlying72 hlk (R := N0.map pEnt) (by have := HN0.out.map pEnt; rwa [List.map_cons] at this)
    obtain ⟨_, e4, e3⟩ := H6.out.cells
    obtain ⟨p0, p1, p2⟩ := P6.out.cells3
    have hL7 : L7 s m w3.heap.size w.heap.size k f t J w7 := by
      have hne : ∀ {ty : TypeId} {i : Nat} {cs : Array Value}, BoxT ty w6.drew i cs → BoxT ty w7 i cs := fun {ty i cs} hb => by
        have h1 : i ≠ m := fun e => by
          obtain ⟨es, ck, h1⟩ := H7.out.mp.isMap
          unfold BoxT at hb
          rw [e, h1] at hb
          cases hb
        have h2 := ht7.other h1
        unfold BoxT at *
        rw [h2]; exact hb
      have q1 := hne H7.out.box
      have q2 := hne H7.out.bp
      have q3 := hne (ty := 89) P6.out
      obtain ⟨r0, r1, r2⟩ := q3.cells3
      obtain ⟨_, _, _, r3⟩ := q2.cells4
      exact ⟨by rw [q1.cellAt]; rfl, r0, r1, r2, r3⟩
    have HL7 := hide hL7
    have HM7 := hide (And.intro hm7 ht7)
    clear hL7 hm7 ht7
    refine wp_region_M (S := fun w' => L7 s m w3.heap.size w.heap.size k f t J w') (late := []) (by kernel_rfl) ⟨e4, p0, p1, p2, e3⟩ (fun hHeld => ?_)
    (try simp only [List.size_toArray, List.length_cons, List.length_nil, Nat.zero_add, Nat.reduceAdd, Array.replicate, List.replicate])
    refine wpAnyM_take (i := 0) (oi := ⟨_, _, _, _, _, _⟩) (v := ?_) rfl (by kernel_rfl) (by kernel_rfl) (by kernel_rfl) (by kernel_rfl) (fun _ _ _ h => h) (Or.inl ⟨by rfl, ?_⟩) hHeld ?_
    rotate_left
    · (intro w' hSw; unfold L7 at hSw; go_simp; try (with_reducible rfl))
    (try simp only [Act.put, List.setIfInBounds_toArray, List.set_cons_zero, List.set_cons_succ])
    refine wpAnyM_take (i := 1) (oi := ⟨_, _, _, _, _, _⟩) (v := ?_) rfl (by kernel_rfl) (by kernel_rfl) (by kernel_rfl) (by kernel_rfl) (fun _ _ _ h => h) (Or.inl ⟨by rfl, ?_⟩) hHeld ?_
    rotate_left
    · (intro w' hSw; unfold L7 at hSw; go_simp; try (with_reducible rfl))
    (try simp only [Act.put, List.setIfInBounds_toArray, List.set_cons_zero, List.set_cons_succ])
    refine wpAnyM_take (i := 2) (oi := ⟨_, _, _, _, _, _⟩) (v := ?_) rfl (by kernel_rfl) (by kernel_rfl) (by kernel_rfl) (by kernel_rfl) (fun _ _ _ h => h) (Or.inl ⟨by rfl, ?_⟩) hHeld ?_
    rotate_left
    · (intro w' hSw; unfold L7 at hSw; go_simp; try (with_reducible rfl))
    (try simp only [Act.put, List.setIfInBounds_toArray, List.set_cons_zero, List.set_cons_succ])
    refine wpAnyM_take (i := 3) (oi := ⟨_, _, _, _, _, _⟩) (v := ?_) rfl (by kernel_rfl) (by kernel_rfl) (by kernel_rfl) (by kernel_rfl) (fun _ _ _ h => h) (Or.inl ⟨by rfl, ?_⟩) hHeld ?_
    rotate_left
    · (intro w' hSw; unfold L7 at hSw; go_simp; try (with_reducible rfl))
    (try simp only [Act.put, List.setIfInBounds_toArray, List.set_cons_zero, List.set_cons_succ])
    refine wpAnyM_take (i := 4) (oi := ⟨_, _, _, _, _, _⟩) (v := ?_) rfl (by kernel_rfl) (by kernel_rfl) (by kernel_rfl) (by kernel_rfl) (fun _ _ _ h => h) (Or.inl ⟨by rfl, ?_⟩) hHeld ?_
    rotate_left
    · (intro w' hSw; unfold L7 at hSw; go_simp; try (with_reducible rfl))
    (try simp only [Act.put, List.setIfInBounds_toArray, List.set_cons_zero, List.set_cons_succ])
    refine wpAnyM_take (i := 5) (oi := ⟨_, _, _, _, _, _⟩) (v := ?_) rfl (by kernel_rfl) (by kernel_rfl) (by kernel_rfl) (by kernel_rfl) (fun _ _ _ h => h) (Or.inl ⟨by rfl, ?_⟩) hHeld ?_
    rotate_left
    · (intro w' hSw; unfold L7 at hSw; go_simp; try (with_reducible rfl))
    (try simp only [Act.put, List.setIfInBounds_toArray, List.set_cons_zero, List.set_cons_succ])
    refine wpAnyM_take (i := 6) (oi := ⟨_, _, _, _, _, _⟩) (v := ?_) rfl (by kernel_rfl) (by kernel_rfl) (by kernel_rfl) (by kernel_rfl) (fun _ _ _ h => h) (Or.inl ⟨by rfl, ?_⟩) hHeld ?_
    rotate_left
    · (intro w' hSw; unfold L7 at hSw; go_simp; try (with_reducible rfl))
    (try simp only [Act.put, List.setIfInBounds_toArray, List.set_cons_zero, List.set_cons_succ])
    refine wpAnyM_one (i := 7) (o := ⟨_, _, _, _, _, _⟩) (by kernel_rfl) rfl (fun K hK => ?_)
    refine step_put_run rfl _ _ _ 72 rfl _ _ _ rfl rfl rfl hrun7 ?_
    refine hK.out _ _ HL7.out (fun hHeld => ?_)
    clear hK K
    (try simp only [List.setIfInBounds_toArray, List.set_cons_zero, List.set_cons_succ])
    refine wpAnyM_done (by kernel_rfl) ?_ _
    go_wp2_with fail
    go_end0
    obtain ⟨e1, e2, e3⟩ := HEQ.out
    subst e1 e2 e3
    have hnew : (⟨k, f, t, J⟩ :: N0 : List Pn).map pEnt = (plV ⟨k, f, t, c⟩, .int .i64 J) :: N0.map pEnt := rfl
    have hxok := HST.out.ok ⟨k, f, t, xa⟩ (HN0.out.mem_iff.2 (List.mem_cons_self ..))
    obtain ⟨q1, q2⟩ := H7.out.fin (N' := ⟨k, f, t, J⟩ :: N0) (by rw [hnew]; exact HM7.out.1) HM7.out.2 (fun y hy => by
      rcases List.mem_cons.1 hy with rfl | hy
      · exact ⟨HP.out.k, HP.out.f, HP.out.t, by rw [← HJ.out]; exact jn_in hxok.a HP.out.a⟩
      · exact HST.out.ok y (HN0.out.mem_iff.2 (List.mem_cons_of_mem _ hy))) (HST.out.inv.plain hkd _)
    refine ⟨rfl, _, _, _, q1, q2, ?_⟩
    rw [HSE.out]
    have hpl := (places_of HST.out.mp).perm HN0.out
    have hm : mt false ⟨k, f, t, c⟩ ⟨k, f, t, xa⟩ := ⟨rfl, .inr ⟨rfl, rfl, rfl⟩⟩
    have hj : jp (jn ag) ⟨k, f, t, c⟩ ⟨k, f, t, xa⟩ = ⟨k, f, t, J⟩ := by
      rw [← HJ.out]
      refine Pn.same rfl ?_ ?_ ?_ <;> simp only [jp]
      · omega
      · omega
      · exact jn_comm _ _ _
    have hr := Reds.pair (J := jn ag) N0 hm
    rw [hj] at hr
    refine ⟨hr.perm (.cons _ HN0.out.symm) (.refl _), ?_⟩
    have hpa := List.pairwise_cons.1 hpl
    refine List.pairwise_cons.2 ⟨fun y hy hmy => ?_, hpa.2.imp (fun hne hmy => hne ?_)⟩
    · obtain ⟨m1, ⟨m2, _⟩ | ⟨_, m2, m3⟩⟩ := hmy
      · cases m2
      · exact hpa.1 y hy ⟨m1, m2, m3⟩
    · obtain ⟨m1, ⟨m2, _⟩ | ⟨_, m2, m3⟩⟩ := hmy
      · cases m2
      · exact ⟨m1, m2, m3⟩
  · have HNO : Hid (∀ p ∈ N.map pEnt, p.1 ≠ (.agg #[.int .i64 k, .int .i64 f, .int .i64 t] : Value)) := fun p hp e => by
      obtain ⟨y, hy, rfl⟩ := List.mem_map.1 hp
      simp [pEnt, plV] at e
      exact hx ⟨y, hy, e⟩
    have HX := hide hx
    clear hx
    go_enter Tryz.func28, Tryz.ntmps28
    obtain ⟨b0, b1, b2, b3⟩ := HL.out.bp.cells4
    have HPO := hide (fun w' => placeOf_any w' ⟨k, f, t, c⟩)
    unfold Pn.val plV at HPO
    simp only at HPO
    go_upto_region 4 with (first | (go_at_call 38; refine (HPO.out _).mono ?_; rintro e w3 ⟨rfl, b3'⟩; have H3 := hide (HL.out.below b3'); clear b3') | fail)
    obtain ⟨W4, hW4⟩ : ∃ W4, W4 = w3.alloc (.cells #[.int .i64 k, .int .i64 f, .int .i64 t] 89) := ⟨_, rfl⟩
    rw [← hW4]
    have H4 : Hid (LI w W4 s m o kd size slide ag fq fq' N R' k f t c) := (show LI _ _ _ _ _ _ _ _ _ _ _ _ _ _ _ _ _ by rw [hW4]; exact H3.out.below (below_box w3 _))
    have P4 : Hid (BoxT 89 W4 w3.heap.size #[.int .i64 k, .int .i64 f, .int .i64 t]) := (show BoxT _ _ _ _ by rw [hW4]; exact BoxT.new _ _ _)
    clear hW4 b0 b1 b2 b3 HPO
    have HK4 : Hid (∀ w', Below W4.heap.size W4 w' → L4 s m w3.heap.size k f t 0 false w') := fun w' hb => by
      have h1 := H4.out.below hb
      obtain ⟨p0, p1, p2⟩ := (BoxT.below (t := 89) P4.out hb).cells3
      obtain ⟨lk, hlk⟩ := HKEY.out
      exact ⟨h1.cells.2.1, p0, p1, p2, h1.mp.look_miss Tryz.lawPl Tryz.underlying72 (Tryz.zeroI w') hlk HNO.out true⟩
    refine wp_region_M (S := fun w' => L4 s m w3.heap.size k f t 0 false w') (late := []) (by kernel_rfl) (HK4.out _ (Below.refl _ _).drew) (fun hHeld => ?_)
    (try simp only [List.size_toArray, List.length_cons, List.length_nil, Nat.zero_add, Nat.reduceAdd, Array.replicate, List.replicate])
    refine wpAnyM_take (i := 0) (oi := ⟨_, _, _, _, _, _⟩) (v := ?_) rfl (by kernel_rfl) (by kernel_rfl) (by kernel_rfl) (by kernel_rfl) (fun _ _ _ h => h) (Or.inl ⟨by rfl, ?_⟩) hHeld ?_
    rotate_left
    · (intro w' hSw; unfold L4 at hSw; go_simp; try (with_reducible rfl))
    (try simp only [Act.put, List.setIfInBounds_toArray, List.set_cons_zero, List.set_cons_succ])
    refine wpAnyM_take (i := 1) (oi := ⟨_, _, _, _, _, _⟩) (v := ?_) rfl (by kernel_rfl) (by kernel_rfl) (by kernel_rfl) (by kernel_rfl) (fun _ _ _ h => h) (Or.inl ⟨by rfl, ?_⟩) hHeld ?_
    rotate_left
    · (intro w' hSw; unfold L4 at hSw; go_simp; try (with_reducible rfl))
    (try simp only [Act.put, List.setIfInBounds_toArray, List.set_cons_zero, List.set_cons_succ])
    refine wpAnyM_take (i := 2) (oi := ⟨_, _, _, _, _, _⟩) (v := ?_) rfl (by kernel_rfl) (by kernel_rfl) (by kernel_rfl) (by kernel_rfl) (fun _ _ _ h => h) (Or.inl ⟨by rfl, ?_⟩) hHeld ?_
    rotate_left
    · (intro w' hSw; unfold L4 at hSw; go_simp; try (with_reducible rfl))
    (try simp only [Act.put, List.setIfInBounds_toArray, List.set_cons_zero, List.set_cons_succ])
    refine wpAnyM_take (i := 3) (oi := ⟨_, _, _, _, _, _⟩) (v := ?_) rfl (by kernel_rfl) (by kernel_rfl) (by kernel_rfl) (by kernel_rfl) (fun _ _ _ h => h) (Or.inl ⟨by rfl, ?_⟩) hHeld ?_
    rotate_left
    · (intro w' hSw; unfold L4 at hSw; go_simp; try (with_reducible rfl))
    (try simp only [Act.put, List.setIfInBounds_toArray, List.set_cons_zero, List.set_cons_succ])
    refine wpAnyM_take (i := 4) (oi := ⟨_, _, _, _, _, _⟩) (v := ?_) rfl (by kernel_rfl) (by kernel_rfl) (by kernel_rfl) (by kernel_rfl) (fun _ _ _ h => h) (Or.inl ⟨by rfl, ?_⟩) hHeld ?_
    rotate_left
    · (intro w' hSw; unfold L4 at hSw; go_simp; try (with_reducible rfl))
    (try simp only [Act.put, List.setIfInBounds_toArray, List.set_cons_zero, List.set_cons_succ])
    refine wpAnyM_take (i := 5) (oi := ⟨_, _, _, _, _, _⟩) (v := ?_) rfl (by kernel_rfl) (by kernel_rfl) (by kernel_rfl) (by kernel_rfl) (fun _ _ _ h => h) (Or.inl ⟨by rfl, ?_⟩) hHeld ?_
    rotate_left
    · (intro w' hSw; unfold L4 at hSw; go_simp; try (with_reducible rfl))
    (try simp only [Act.put, List.setIfInBounds_toArray, List.set_cons_zero, List.set_cons_succ])
    refine wpAnyM_take (i := 6) (oi := ⟨_, _, _, _, _, _⟩) (v := ?_) rfl (by kernel_rfl) (by kernel_rfl) (by kernel_rfl) (by kernel_rfl) (fun _ _ _ h => h) (Or.inl ⟨by rfl, ?_⟩) hHeld ?_
    rotate_left
    · (intro w' hSw; unfold L4 at hSw; go_simp; try (with_reducible rfl))
    (try simp only [Act.put, List.setIfInBounds_toArray, List.set_cons_zero, List.set_cons_succ])
    refine wpAnyM_take (i := 7) (oi := ⟨_, _, _, _, _, _⟩) (v := ?_) rfl (by kernel_rfl) (by kernel_rfl) (by kernel_rfl) (by kernel_rfl) (fun _ _ _ h => h) (Or.inl ⟨by rfl, ?_⟩) hHeld ?_
    rotate_left
    · (intro w' hSw; unfold L4 at hSw; go_simp; try (with_reducible rfl))
    (try simp only [Act.put, List.setIfInBounds_toArray, List.set_cons_zero, List.set_cons_succ])
    refine wpAnyM_take (i := 8) (oi := ⟨_, _, _, _, _, _⟩) (v := ?_) rfl (by kernel_rfl) (by kernel_rfl) (by kernel_rfl) (by kernel_rfl) (fun _ _ _ h => h) (Or.inl ⟨by rfl, ?_⟩) hHeld ?_
    rotate_left
    · (intro w' hSw; unfold L4 at hSw; go_simp; try (with_reducible rfl))
    (try simp only [Act.put, List.setIfInBounds_toArray, List.set_cons_zero, List.set_cons_succ])
    refine wpAnyM_take (i := 9) (oi := ⟨_, _, _, _, _, _⟩) (v := ?_) rfl (by kernel_rfl) (by kernel_rfl) (by kernel_rfl) (by kernel_rfl) (fun _ _ _ h => h) (Or.inl ⟨by rfl, ?_⟩) hHeld ?_
    rotate_left
    · (intro w' hSw; unfold L4 at hSw; go_simp; try (with_reducible rfl))
    (try simp only [Act.put, List.setIfInBounds_toArray, List.set_cons_zero, List.set_cons_succ])
    refine wpAnyM_take (i := 10) (oi := ⟨_, _, _, _, _, _⟩) (v := ?_) rfl (by kernel_rfl) (by kernel_rfl) (by kernel_rfl) (by kernel_rfl) (fun _ _ _ h => h) (Or.inl ⟨by rfl, ?_⟩) hHeld ?_
    rotate_left
    · (intro w' hSw; unfold L4 at hSw; go_simp; try (with_reducible rfl))
    (try simp only [Act.put, List.setIfInBounds_toArray, List.set_cons_zero, List.set_cons_succ])
    refine wpAnyM_done (by kernel_rfl) ?_ _
    have H6 := hide (H4.out.below ((Below.refl _ _).drew))
    have P6 : Hid (BoxT 89 W4.drew w3.heap.size #[.int .i64 k, .int .i64 f, .int .i64 t]) := P4.out
    clear hHeld
    generalize hw6 : W4.drew = w6 at *
    clear hw6
    go_upto_region 7 with fail
    have H7 := hide (H6.out.below ((Below.refl _ _).drew))
    obtain ⟨lk, hlk⟩ := HKEY.out
    obtain ⟨w7, hrun7, hm7, ht7⟩ := H7.out.mp.store_new (v := .int .i64 c) Tryz.lawPl Tryz.underlying72 hlk HNO.out
    obtain ⟨_, e4, e3⟩ := H6.out.cells
    obtain ⟨p0, p1, p2⟩ := P6.out.cells3
    have hL7 : L7 s m w3.heap.size w.heap.size k f t c w7 := by
      have hne : ∀ {ty : TypeId} {i : Nat} {cs : Array Value}, BoxT ty w6.drew i cs → BoxT ty w7 i cs := fun {ty i cs} hb => by
        have h1 : i ≠ m := fun e => by
          obtain ⟨es, ck, h1⟩ := H7.out.mp.isMap
          unfold BoxT at hb
          rw [e, h1] at hb
          cases hb
        have h2 := ht7.other h1
        unfold BoxT at *
        rw [h2]; exact hb
      have q1 := hne H7.out.box
      have q2 := hne H7.out.bp
      have q3 := hne (ty := 89) P6.out
      obtain ⟨r0, r1, r2⟩ := q3.cells3
      obtain ⟨_, _, _, r3⟩ := q2.cells4
      exact ⟨by rw [q1.cellAt]; rfl, r0, r1, r2, r3⟩
    have HL7 := hide hL7
    have HM7 := hide (And.intro hm7 ht7)
    clear hL7 hm7 ht7
    refine wp_region_M (S := fun w' => L7 s m w3.heap.size w.heap.size k f t c w') (late := []) (by kernel_rfl) ⟨e4, p0, p1, p2, e3⟩ (fun hHeld => ?_)
    (try simp only [List.size_toArray, List.length_cons, List.length_nil, Nat.zero_add, Nat.reduceAdd, Array.replicate, List.replicate])
    refine wpAnyM_take (i := 0) (oi := ⟨_, _, _, _, _, _⟩) (v := ?_) rfl (by kernel_rfl) (by kernel_rfl) (by kernel_rfl) (by kernel_rfl) (fun _ _ _ h => h) (Or.inl ⟨by rfl, ?_⟩) hHeld ?_
    rotate_left
    · (intro w' hSw; unfold L7 at hSw; go_simp; try (with_reducible rfl))
    (try simp only [Act.put, List.setIfInBounds_toArray, List.set_cons_zero, List.set_cons_succ])
    refine wpAnyM_take (i := 1) (oi := ⟨_, _, _, _, _, _⟩) (v := ?_) rfl (by kernel_rfl) (by kernel_rfl) (by kernel_rfl) (by kernel_rfl) (fun _ _ _ h => h) (Or.inl ⟨by rfl, ?_⟩) hHeld ?_
    rotate_left
    · (intro w' hSw; unfold L7 at hSw; go_simp; try (with_reducible rfl))
    (try simp only [Act.put, List.setIfInBounds_toArray, List.set_cons_zero, List.set_cons_succ])
    refine wpAnyM_take (i := 2) (oi := ⟨_, _, _, _, _, _⟩) (v := ?_) rfl (by kernel_rfl) (by kernel_rfl) (by kernel_rfl) (by kernel_rfl) (fun _ _ _ h => h) (Or.inl ⟨by rfl, ?_⟩) hHeld ?_
    rotate_left
    · (intro w' hSw; unfold L7 at hSw; go_simp; try (with_reducible rfl))
    (try simp only [Act.put, List.setIfInBounds_toArray, List.set_cons_zero, List.set_cons_succ])
    refine wpAnyM_take (i := 3) (oi := ⟨_, _, _, _, _, _⟩) (v := ?_) rfl (by kernel_rfl) (by kernel_rfl) (by kernel_rfl) (by kernel_rfl) (fun _ _ _ h => h) (Or.inl ⟨by rfl, ?_⟩) hHeld ?_
    rotate_left
    · (intro w' hSw; unfold L7 at hSw; go_simp; try (with_reducible rfl))
    (try simp only [Act.put, List.setIfInBounds_toArray, List.set_cons_zero, List.set_cons_succ])
    refine wpAnyM_take (i := 4) (oi := ⟨_, _, _, _, _, _⟩) (v := ?_) rfl (by kernel_rfl) (by kernel_rfl) (by kernel_rfl) (by kernel_rfl) (fun _ _ _ h => h) (Or.inl ⟨by rfl, ?_⟩) hHeld ?_
    rotate_left
    · (intro w' hSw; unfold L7 at hSw; go_simp; try (with_reducible rfl))
    (try simp only [Act.put, List.setIfInBounds_toArray, List.set_cons_zero, List.set_cons_succ])
    refine wpAnyM_take (i := 5) (oi := ⟨_, _, _, _, _, _⟩) (v := ?_) rfl (by kernel_rfl) (by kernel_rfl) (by kernel_rfl) (by kernel_rfl) (fun _ _ _ h => h) (Or.inl ⟨by rfl, ?_⟩) hHeld ?_
    rotate_left
    · (intro w' hSw; unfold L7 at hSw; go_simp; try (with_reducible rfl))
    (try simp only [Act.put, List.setIfInBounds_toArray, List.set_cons_zero, List.set_cons_succ])
    refine wpAnyM_take (i := 6) (oi := ⟨_, _, _, _, _, _⟩) (v := ?_) rfl (by kernel_rfl) (by kernel_rfl) (by kernel_rfl) (by kernel_rfl) (fun _ _ _ h => h) (Or.inl ⟨by rfl, ?_⟩) hHeld ?_
    rotate_left
    · (intro w' hSw; unfold L7 at hSw; go_simp; try (with_reducible rfl))
    (try simp only [Act.put, List.setIfInBounds_toArray, List.set_cons_zero, List.set_cons_succ])
    refine wpAnyM_one (i := 7) (o := ⟨_, _, _, _, _, _⟩) (by kernel_rfl) rfl (fun K hK => ?_)
    refine step_put_run rfl _ _ _ 72 rfl _ _ _ rfl rfl rfl hrun7 ?_
    refine hK.out _ _ HL7.out (fun hHeld => ?_)
    clear hK K
    (try simp only [List.setIfInBounds_toArray, List.set_cons_zero, List.set_cons_succ])
    refine wpAnyM_done (by kernel_rfl) ?_ _
    go_wp2_with fail
    go_end0
    obtain ⟨e1, e2, e3⟩ := HEQ.out
    subst e1 e2 e3
    have hnew : (⟨k, f, t, c⟩ :: N : List Pn).map pEnt = (plV ⟨k, f, t, c⟩, .int .i64 c) :: N.map pEnt := rfl
    obtain ⟨q1, q2⟩ := H7.out.fin (N' := ⟨k, f, t, c⟩ :: N) (by rw [hnew]; exact HM7.out.1) HM7.out.2 (fun y hy => by
      rcases List.mem_cons.1 hy with rfl | hy
      · exact HP.out
      · exact HST.out.ok y hy) (HST.out.inv.plain hkd _)
    refine ⟨rfl, _, _, _, q1, q2, ?_⟩
    rw [HSE.out]
    refine Comes.refl (List.pairwise_cons.2 ⟨fun y hy hmy => ?_, (places_of HST.out.mp).imp (fun hne hmy => hne ?_)⟩)
    · obtain ⟨m1, ⟨m2, _⟩ | ⟨_, m2, m3⟩⟩ := hmy
      · cases m2
      · exact HX.out ⟨y, hy, m1.symm, m2.symm, m3.symm⟩
    · obtain ⟨m1, ⟨m2, _⟩ | ⟨_, m2, m3⟩⟩ := hmy
      · cases m2
      · exact ⟨m1, m2, m3⟩
/-- Behind gathered. -/
theorem LI.start {w w2 : World} {s m o : Nat} {size slide ag : Int} {fq fq' : Nat → Prop} {M N : List Pn} {R R' : List SRow} {k f t c : Int} (h : StAt w s m o 3 size slide ag fq M R) (hbox : BoxT 76 w2 s #[.int .i64 3, .int .i64 size, .int .i64 slide, .int .i64 ag, .map (some m), .map (some o)]) (hmp : MapAt Tryz.prog 89 w2 m (N.map pEnt)) (hom : OM w2 o fq' R')
    (hft : FT (FP s m fq) (FP s m fq') (w.alloc (.cells #[.int .i64 k, .int .i64 f, .int .i64 t, .int .i64 c] 70)) w2) (hns : ¬ fq' s) (hnm : ¬ fq' m) :
    LI w w2 s m o 3 size slide ag fq fq' N R' k f t c := by
  have hsl := h.box.lt
  have hml := h.mp.lt
  have hW : (w.alloc (.cells #[.int .i64 k, .int .i64 f, .int .i64 t, .int .i64 c] 70)).heap.size = w.heap.size + 1 := by simp
  have nfp : ¬ FP s m fq w.heap.size := fun e => by
    rcases e with e | e | e
    · omega
    · omega
    · have := h.om.flt _ e; omega
  have n1 : ¬ fq' w.heap.size := fun e => by
    rcases hft.sub _ (.inr (.inr e)) with e | e
    · exact nfp e
    · omega
  have hb2 : BoxT 70 w2 w.heap.size #[.int .i64 k, .int .i64 f, .int .i64 t, .int .i64 c] := by
    have h1 : BoxT 70 (w.alloc (.cells #[.int .i64 k, .int .i64 f, .int .i64 t, .int .i64 c] 70)) w.heap.size #[.int .i64 k, .int .i64 f, .int .i64 t, .int .i64 c] := BoxT.new _ _ _
    have h2 := hft.block w.heap.size (by omega) nfp
    unfold BoxT at *
    rw [h2]; exact h1
  have hft0 : FT (FP s m fq) (FP s m fq') w w2 := (FT.of_below (below_box w _)).trans hft
  exact ⟨hbox, hmp, hom, hft0, hb2, hns, hnm, n1, hsl, hml⟩
set_option maxHeartbeats 8000000 in
set_option maxRecDepth 100000 in
theorem lay_sess {w : World} {s m o : Nat} {size slide ag : Int} {fq : Nat → Prop} {M : List Pn} {R : List SRow} (h : StAt w s m o 3 size slide ag fq M R) {k f t c : Int} (hp : PnOk ⟨k, f, t, c⟩) (hf : f < t) (hM : M.length ≤ 100000) :
    Calls Tryz.prog 28 #[.pointer (some ⟨s, 0, none⟩), .agg #[.int .i64 k, .int .i64 f, .int .i64 t, .int .i64 c]] w (LPost w s m o 3 size slide ag fq M ⟨k, f, t, c⟩) := by
  have hb1 := below_box w (.cells #[.int .i64 k, .int .i64 f, .int .i64 t, .int .i64 c] 70)
  have h1 := h.below (fun i hi => hb1.block i (h.flt i hi)) hb1.size
  have HGA := hide (gathered_any (c := c) h1 hp.k hf hM)
  have HST := hide h
  have HS1 := hide h1
  have HP := hide hp
  have hk1 : (w.alloc (.cells #[.int .i64 k, .int .i64 f, .int .i64 t, .int .i64 c] 70)).cell? ⟨s, 0, none⟩ = some (.int .i64 3) := h1.cells.1
  clear h h1 hb1 hp
  have d3 : ((3 : Int) == 3) = true := rfl
  go_enter Tryz.func28, Tryz.ntmps28
  go_upto_region 3 with (first | (go_at_call 51; refine HGA.out.mono ?_; rintro e w2 ⟨a, b, l, v, v', R0, G, N, hr, hA, hG, rfl, g1, g2, g3, g4, g5, g6⟩; have HRW := hide hr; have HAD := hide hA; have HGI := hide hG; have HL0 := hide (LI.start HST.out g1 g2 g3 g4 g5 g6); clear hr hA hG g1 g2 g3 g4 g5 g6; obtain ⟨y0, y1, y2, y3⟩ := HL0.out.bp.cells4; have yf := fun j => HL0.out.bp.free j) | fail)
  obtain ⟨hcom, hNpl, hwh, hinv⟩ := gath_pure (c := c) (v' := v') HST.out HRW.out hf HAD.out HGI.out
  have hspin : ∀ sp ∈ l, In64 sp.f ∧ In64 sp.t := fun sp hsp => by
    have hrow : ∃ x ∈ M, x.k = k ∧ x.f = sp.f ∧ x.t = sp.t := by
      rcases HRW.out with ⟨_, _, _, rfl⟩ | hp
      · cases hsp
      · exact (HST.out.inv.dn _ (hp.mem_iff.2 (List.mem_cons_self ..)) sp hsp).2
    obtain ⟨x, h1, _, h2, h3⟩ := hrow
    have h4 := HST.out.ok x h1
    exact ⟨h2 ▸ h4.f, h3 ▸ h4.t⟩
  have hwin := whl_in (a := a) (b := b) HP.out.f HP.out.t hspin
  have hcin : In64 (G.foldl (fun a x => jn ag x.a a) c) := foldJ_in G c HP.out.a (fun x hx => (HST.out.ok x (HGI.out.all.mem_iff.2 (List.mem_append_left _ hx))).a)
  have HNok : Hid (∀ x ∈ N, PnOk x) := fun x hx => HST.out.ok x (HGI.out.all.mem_iff.2 (List.mem_append_right _ hx))
  rw [hwh] at hcom hinv
  generalize hWH : whl ⟨f, t⟩ l a b = WH at *
  clear hWH
  obtain ⟨wf, wt⟩ := WH
  simp only at hcom hinv hNpl hwin
  have hgr : w2.grownBy ((((w2.setCell ⟨w.heap.size, 0, none⟩ (.int .i64 k)).setCell ⟨w.heap.size, 1, none⟩ (.int .i64 wf)).setCell ⟨w.heap.size, 2, none⟩ (.int .i64 wt)).setCell ⟨w.heap.size, 3, none⟩ (.int .i64 (G.foldl (fun a x => jn ag x.a a) c))) (some w.heap.size) := grownBy_trans (grownBy_trans (grownBy_trans (grownBy_set _ _ _ _) (grownBy_set _ _ _ _)) (grownBy_set _ _ _ _)) (grownBy_set _ _ _ _)
  have HL := hide (HL0.out.set hgr (k' := k) (f' := wf) (t' := wt) (c' := G.foldl (fun a x => jn ag x.a a) c) (by have := (((HL0.out.bp.set 0 (.int .i64 k)).set 1 (.int .i64 wf)).set 2 (.int .i64 wt)).set 3 (.int .i64 (G.foldl (fun a x => jn ag x.a a) c)); simpa using this))
  have HKEY := hide (keyPl HP.out.k hwin.1 hwin.2)
  have HNO : Hid (∀ p ∈ N.map pEnt, p.1 ≠ (.agg #[.int .i64 k, .int .i64 wf, .int .i64 wt] : Value)) := fun p hp e => by
    obtain ⟨y, hy, rfl⟩ := List.mem_map.1 hp
    simp [pEnt, plV] at e
    exact hNpl y hy e
  have HPK : Hid (PnOk ⟨k, wf, wt, G.foldl (fun a x => jn ag x.a a) c⟩) := ⟨HP.out.k, hwin.1, hwin.2, hcin⟩
  have HCO := hide hcom
  have HIV := hide hinv
  clear hcom hinv hNpl hwin hcin hspin hwh HL0 y0 y1 y2 y3 yf
  generalize hWX : ((((w2.setCell ⟨w.heap.size, 0, none⟩ (.int .i64 k)).setCell ⟨w.heap.size, 1, none⟩ (.int .i64 wf)).setCell ⟨w.heap.size, 2, none⟩ (.int .i64 wt)).setCell ⟨w.heap.size, 3, none⟩ (.int .i64 (G.foldl (fun a x => jn ag x.a a) c))) = WX at *
  clear hWX hgr
  generalize hCC : G.foldl (fun a x => jn ag x.a a) c = CC at *
  clear hCC
  generalize hRR : (⟨k, v', l.take a ++ (⟨wf, wt⟩ : Sp) :: l.drop b⟩ :: R0 : List SRow) = R' at *
  clear hRR
  generalize hFQ : (fun i => fq i ∨ v'.ownBlock = some i) = fq' at *
  clear hFQ
  obtain ⟨b0, b1, b2, b3⟩ := HL.out.bp.cells4
  have HPO := hide (fun w' => placeOf_any w' ⟨k, wf, wt, CC⟩)
  unfold Pn.val plV at HPO
  simp only at HPO
  go_upto_region 4 with (first | (go_at_call 38; refine (HPO.out _).mono ?_; rintro e w3 ⟨rfl, b3'⟩; have H3 := hide (HL.out.below b3'); clear b3') | fail)
  obtain ⟨W4, hW4⟩ : ∃ W4, W4 = w3.alloc (.cells #[.int .i64 k, .int .i64 wf, .int .i64 wt] 89) := ⟨_, rfl⟩
  rw [← hW4]
  have H4 : Hid (LI w W4 s m o 3 size slide ag fq fq' N R' k wf wt CC) := (show LI _ _ _ _ _ _ _ _ _ _ _ _ _ _ _ _ _ by rw [hW4]; exact H3.out.below (below_box w3 _))
  have P4 : Hid (BoxT 89 W4 w3.heap.size #[.int .i64 k, .int .i64 wf, .int .i64 wt]) := (show BoxT _ _ _ _ by rw [hW4]; exact BoxT.new _ _ _)
  clear hW4 b0 b1 b2 b3 HPO
  have HK4 : Hid (∀ w', Below W4.heap.size W4 w' → L4 s m w3.heap.size k wf wt 0 false w') := fun w' hb => by
    have h1 := H4.out.below hb
    obtain ⟨p0, p1, p2⟩ := (BoxT.below (t := 89) P4.out hb).cells3
    obtain ⟨lk, hlk⟩ := HKEY.out
    exact ⟨h1.cells.2.1, p0, p1, p2, h1.mp.look_miss Tryz.lawPl Tryz.underlying72 (Tryz.zeroI w') hlk HNO.out true⟩
  refine wp_region_M (S := fun w' => L4 s m w3.heap.size k wf wt 0 false w') (late := []) (by kernel_rfl) (HK4.out _ (Below.refl _ _).drew) (fun hHeld => ?_)
  (try simp only [List.size_toArray, List.length_cons, List.length_nil, Nat.zero_add, Nat.reduceAdd, Array.replicate, List.replicate])
  refine wpAnyM_take (i := 0) (oi := ⟨_, _, _, _, _, _⟩) (v := ?_) rfl (by kernel_rfl) (by kernel_rfl) (by kernel_rfl) (by kernel_rfl) (fun _ _ _ h => h) (Or.inl ⟨by rfl, ?_⟩) hHeld ?_
  rotate_left
  · (intro w' hSw; unfold L4 at hSw; go_simp; try (with_reducible rfl))
  (try simp only [Act.put, List.setIfInBounds_toArray, List.set_cons_zero, List.set_cons_succ])
  refine wpAnyM_take (i := 1) (oi := ⟨_, _, _, _, _, _⟩) (v := ?_) rfl (by kernel_rfl) (by kernel_rfl) (by kernel_rfl) (by kernel_rfl) (fun _ _ _ h => h) (Or.inl ⟨by rfl, ?_⟩) hHeld ?_
  rotate_left
  · (intro w' hSw; unfold L4 at hSw; go_simp; try (with_reducible rfl))
  (try simp only [Act.put, List.setIfInBounds_toArray, List.set_cons_zero, List.set_cons_succ])
  refine wpAnyM_take (i := 2) (oi := ⟨_, _, _, _, _, _⟩) (v := ?_) rfl (by kernel_rfl) (by kernel_rfl) (by kernel_rfl) (by kernel_rfl) (fun _ _ _ h => h) (Or.inl ⟨by rfl, ?_⟩) hHeld ?_
  rotate_left
  · (intro w' hSw; unfold L4 at hSw; go_simp; try (with_reducible rfl))
  (try simp only [Act.put, List.setIfInBounds_toArray, List.set_cons_zero, List.set_cons_succ])
  refine wpAnyM_take (i := 3) (oi := ⟨_, _, _, _, _, _⟩) (v := ?_) rfl (by kernel_rfl) (by kernel_rfl) (by kernel_rfl) (by kernel_rfl) (fun _ _ _ h => h) (Or.inl ⟨by rfl, ?_⟩) hHeld ?_
  rotate_left
  · (intro w' hSw; unfold L4 at hSw; go_simp; try (with_reducible rfl))
  (try simp only [Act.put, List.setIfInBounds_toArray, List.set_cons_zero, List.set_cons_succ])
  refine wpAnyM_take (i := 4) (oi := ⟨_, _, _, _, _, _⟩) (v := ?_) rfl (by kernel_rfl) (by kernel_rfl) (by kernel_rfl) (by kernel_rfl) (fun _ _ _ h => h) (Or.inl ⟨by rfl, ?_⟩) hHeld ?_
  rotate_left
  · (intro w' hSw; unfold L4 at hSw; go_simp; try (with_reducible rfl))
  (try simp only [Act.put, List.setIfInBounds_toArray, List.set_cons_zero, List.set_cons_succ])
  refine wpAnyM_take (i := 5) (oi := ⟨_, _, _, _, _, _⟩) (v := ?_) rfl (by kernel_rfl) (by kernel_rfl) (by kernel_rfl) (by kernel_rfl) (fun _ _ _ h => h) (Or.inl ⟨by rfl, ?_⟩) hHeld ?_
  rotate_left
  · (intro w' hSw; unfold L4 at hSw; go_simp; try (with_reducible rfl))
  (try simp only [Act.put, List.setIfInBounds_toArray, List.set_cons_zero, List.set_cons_succ])
  refine wpAnyM_take (i := 6) (oi := ⟨_, _, _, _, _, _⟩) (v := ?_) rfl (by kernel_rfl) (by kernel_rfl) (by kernel_rfl) (by kernel_rfl) (fun _ _ _ h => h) (Or.inl ⟨by rfl, ?_⟩) hHeld ?_
  rotate_left
  · (intro w' hSw; unfold L4 at hSw; go_simp; try (with_reducible rfl))
  (try simp only [Act.put, List.setIfInBounds_toArray, List.set_cons_zero, List.set_cons_succ])
  refine wpAnyM_take (i := 7) (oi := ⟨_, _, _, _, _, _⟩) (v := ?_) rfl (by kernel_rfl) (by kernel_rfl) (by kernel_rfl) (by kernel_rfl) (fun _ _ _ h => h) (Or.inl ⟨by rfl, ?_⟩) hHeld ?_
  rotate_left
  · (intro w' hSw; unfold L4 at hSw; go_simp; try (with_reducible rfl))
  (try simp only [Act.put, List.setIfInBounds_toArray, List.set_cons_zero, List.set_cons_succ])
  refine wpAnyM_take (i := 8) (oi := ⟨_, _, _, _, _, _⟩) (v := ?_) rfl (by kernel_rfl) (by kernel_rfl) (by kernel_rfl) (by kernel_rfl) (fun _ _ _ h => h) (Or.inl ⟨by rfl, ?_⟩) hHeld ?_
  rotate_left
  · (intro w' hSw; unfold L4 at hSw; go_simp; try (with_reducible rfl))
  (try simp only [Act.put, List.setIfInBounds_toArray, List.set_cons_zero, List.set_cons_succ])
  refine wpAnyM_take (i := 9) (oi := ⟨_, _, _, _, _, _⟩) (v := ?_) rfl (by kernel_rfl) (by kernel_rfl) (by kernel_rfl) (by kernel_rfl) (fun _ _ _ h => h) (Or.inl ⟨by rfl, ?_⟩) hHeld ?_
  rotate_left
  · (intro w' hSw; unfold L4 at hSw; go_simp; try (with_reducible rfl))
  (try simp only [Act.put, List.setIfInBounds_toArray, List.set_cons_zero, List.set_cons_succ])
  refine wpAnyM_take (i := 10) (oi := ⟨_, _, _, _, _, _⟩) (v := ?_) rfl (by kernel_rfl) (by kernel_rfl) (by kernel_rfl) (by kernel_rfl) (fun _ _ _ h => h) (Or.inl ⟨by rfl, ?_⟩) hHeld ?_
  rotate_left
  · (intro w' hSw; unfold L4 at hSw; go_simp; try (with_reducible rfl))
  (try simp only [Act.put, List.setIfInBounds_toArray, List.set_cons_zero, List.set_cons_succ])
  refine wpAnyM_done (by kernel_rfl) ?_ _
  have H6 := hide (H4.out.below ((Below.refl _ _).drew))
  have P6 : Hid (BoxT 89 W4.drew w3.heap.size #[.int .i64 k, .int .i64 wf, .int .i64 wt]) := P4.out
  clear hHeld
  generalize hw6 : W4.drew = w6 at *
  clear hw6
  go_upto_region 7 with fail
  have H7 := hide (H6.out.below ((Below.refl _ _).drew))
  obtain ⟨lk, hlk⟩ := HKEY.out
  obtain ⟨w7, hrun7, hm7, ht7⟩ := H7.out.mp.store_new (v := .int .i64 CC) Tryz.lawPl Tryz.underlying72 hlk HNO.out
  obtain ⟨_, e4, e3⟩ := H6.out.cells
  obtain ⟨p0, p1, p2⟩ := P6.out.cells3
  have hL7 : L7 s m w3.heap.size w.heap.size k wf wt CC w7 := by
    have hne : ∀ {ty : TypeId} {i : Nat} {cs : Array Value}, BoxT ty w6.drew i cs → BoxT ty w7 i cs := fun {ty i cs} hb => by
      have h1 : i ≠ m := fun e => by
        obtain ⟨es, ck, h1⟩ := H7.out.mp.isMap
        unfold BoxT at hb
        rw [e, h1] at hb
        cases hb
      have h2 := ht7.other h1
      unfold BoxT at *
      rw [h2]; exact hb
    have q1 := hne H7.out.box
    have q2 := hne H7.out.bp
    have q3 := hne (ty := 89) P6.out
    obtain ⟨r0, r1, r2⟩ := q3.cells3
    obtain ⟨_, _, _, r3⟩ := q2.cells4
    exact ⟨by rw [q1.cellAt]; rfl, r0, r1, r2, r3⟩
  have HL7 := hide hL7
  have HM7 := hide (And.intro hm7 ht7)
  clear hL7 hm7 ht7
  refine wp_region_M (S := fun w' => L7 s m w3.heap.size w.heap.size k wf wt CC w') (late := []) (by kernel_rfl) ⟨e4, p0, p1, p2, e3⟩ (fun hHeld => ?_)
  (try simp only [List.size_toArray, List.length_cons, List.length_nil, Nat.zero_add, Nat.reduceAdd, Array.replicate, List.replicate])
  refine wpAnyM_take (i := 0) (oi := ⟨_, _, _, _, _, _⟩) (v := ?_) rfl (by kernel_rfl) (by kernel_rfl) (by kernel_rfl) (by kernel_rfl) (fun _ _ _ h => h) (Or.inl ⟨by rfl, ?_⟩) hHeld ?_
  rotate_left
  · (intro w' hSw; unfold L7 at hSw; go_simp; try (with_reducible rfl))
  (try simp only [Act.put, List.setIfInBounds_toArray, List.set_cons_zero, List.set_cons_succ])
  refine wpAnyM_take (i := 1) (oi := ⟨_, _, _, _, _, _⟩) (v := ?_) rfl (by kernel_rfl) (by kernel_rfl) (by kernel_rfl) (by kernel_rfl) (fun _ _ _ h => h) (Or.inl ⟨by rfl, ?_⟩) hHeld ?_
  rotate_left
  · (intro w' hSw; unfold L7 at hSw; go_simp; try (with_reducible rfl))
  (try simp only [Act.put, List.setIfInBounds_toArray, List.set_cons_zero, List.set_cons_succ])
  refine wpAnyM_take (i := 2) (oi := ⟨_, _, _, _, _, _⟩) (v := ?_) rfl (by kernel_rfl) (by kernel_rfl) (by kernel_rfl) (by kernel_rfl) (fun _ _ _ h => h) (Or.inl ⟨by rfl, ?_⟩) hHeld ?_
  rotate_left
  · (intro w' hSw; unfold L7 at hSw; go_simp; try (with_reducible rfl))
  (try simp only [Act.put, List.setIfInBounds_toArray, List.set_cons_zero, List.set_cons_succ])
  refine wpAnyM_take (i := 3) (oi := ⟨_, _, _, _, _, _⟩) (v := ?_) rfl (by kernel_rfl) (by kernel_rfl) (by kernel_rfl) (by kernel_rfl) (fun _ _ _ h => h) (Or.inl ⟨by rfl, ?_⟩) hHeld ?_
  rotate_left
  · (intro w' hSw; unfold L7 at hSw; go_simp; try (with_reducible rfl))
  (try simp only [Act.put, List.setIfInBounds_toArray, List.set_cons_zero, List.set_cons_succ])
  refine wpAnyM_take (i := 4) (oi := ⟨_, _, _, _, _, _⟩) (v := ?_) rfl (by kernel_rfl) (by kernel_rfl) (by kernel_rfl) (by kernel_rfl) (fun _ _ _ h => h) (Or.inl ⟨by rfl, ?_⟩) hHeld ?_
  rotate_left
  · (intro w' hSw; unfold L7 at hSw; go_simp; try (with_reducible rfl))
  (try simp only [Act.put, List.setIfInBounds_toArray, List.set_cons_zero, List.set_cons_succ])
  refine wpAnyM_take (i := 5) (oi := ⟨_, _, _, _, _, _⟩) (v := ?_) rfl (by kernel_rfl) (by kernel_rfl) (by kernel_rfl) (by kernel_rfl) (fun _ _ _ h => h) (Or.inl ⟨by rfl, ?_⟩) hHeld ?_
  rotate_left
  · (intro w' hSw; unfold L7 at hSw; go_simp; try (with_reducible rfl))
  (try simp only [Act.put, List.setIfInBounds_toArray, List.set_cons_zero, List.set_cons_succ])
  refine wpAnyM_take (i := 6) (oi := ⟨_, _, _, _, _, _⟩) (v := ?_) rfl (by kernel_rfl) (by kernel_rfl) (by kernel_rfl) (by kernel_rfl) (fun _ _ _ h => h) (Or.inl ⟨by rfl, ?_⟩) hHeld ?_
  rotate_left
  · (intro w' hSw; unfold L7 at hSw; go_simp; try (with_reducible rfl))
  (try simp only [Act.put, List.setIfInBounds_toArray, List.set_cons_zero, List.set_cons_succ])
  refine wpAnyM_one (i := 7) (o := ⟨_, _, _, _, _, _⟩) (by kernel_rfl) rfl (fun K hK => ?_)
  refine step_put_run rfl _ _ _ 72 rfl _ _ _ rfl rfl rfl hrun7 ?_
  refine hK.out _ _ HL7.out (fun hHeld => ?_)
  clear hK K
  (try simp only [List.setIfInBounds_toArray, List.set_cons_zero, List.set_cons_succ])
  refine wpAnyM_done (by kernel_rfl) ?_ _
  go_wp2_with fail
  go_end0
  have hnew : (⟨k, wf, wt, CC⟩ :: N : List Pn).map pEnt = (plV ⟨k, wf, wt, CC⟩, .int .i64 CC) :: N.map pEnt := rfl
  obtain ⟨q1, q2⟩ := H7.out.fin (N' := ⟨k, wf, wt, CC⟩ :: N) (by rw [hnew]; exact HM7.out.1) HM7.out.2 (fun y hy => by
    rcases List.mem_cons.1 hy with rfl | hy
    · exact HPK.out
    · exact HNok.out y hy) HIV.out
  exact ⟨rfl, _, _, _, q1, q2, HCO.out⟩
theorem lay_any {w : World} {s m o : Nat} {kd size slide ag : Int} {fq : Nat → Prop} {M : List Pn} {R : List SRow} (h : StAt w s m o kd size slide ag fq M R) {k f t c : Int} (hp : PnOk ⟨k, f, t, c⟩) (hf : kd = 3 → f < t) (hM : M.length ≤ 100000) :
    Calls Tryz.prog 28 #[.pointer (some ⟨s, 0, none⟩), .agg #[.int .i64 k, .int .i64 f, .int .i64 t, .int .i64 c]] w (LPost w s m o kd size slide ag fq M ⟨k, f, t, c⟩) := by
  by_cases hk : kd = 3
  · subst hk
    exact lay_sess h hp (hf rfl) hM
  · exact lay_plain h hk hp
end Go.Proofs.YtdoldohcimbdaaaGreat

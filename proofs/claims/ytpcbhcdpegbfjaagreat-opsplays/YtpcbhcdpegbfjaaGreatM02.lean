/-
  Texts in build order: WHold.
-/
import Derived.Deep.RegionHeldLaw
/-
 A region that draws its order, holds loads, and ends in stores into what it loads: a condition on the world that is asked behind every operation but the late ones.
-/
namespace Go.Proofs.YtpcbhcdpegbfjaaGreat
open Go
section
variable {P : Program} {ops : Array Oper} {Q : Exit → Act → World → Prop} {md : Region.Mode} {S : World → Prop} {late : List Nat}
def wpAnyM (P : Program) (md : Region.Mode) (ops : Array Oper) (Q : Exit → Act → World → Prop) (S : World → Prop) (late : List Nat) : Nat → Array Bool → Act → World → Prop
 | 0, listed, a, w => Region.ready md ops listed = [] ∧ Q .normal a w
 | fuel + 1, listed, a, w =>
  (Region.ready md ops listed = [] → Q .normal a w) ∧
  ∀ i ∈ Region.ready md ops listed, wpOp P ops Q i (fun a' w' => (late.contains i = false → S w') ∧ wpAnyM P md ops Q S late fuel (listed.setIfInBounds i true) a' w') a w
theorem wpAny_of_M : ∀ (fuel : Nat) (listed : Array Bool) (a : Act) (w : World), wpAnyM P md ops Q S late fuel listed a w → wpAny P md ops Q fuel listed a w
 | 0, _, _, _, h => h
 | fuel + 1, _, _, _, h => ⟨h.1, fun i hi => wpOp_mono (fun a' w' h' => wpAny_of_M fuel _ a' w' h'.2) (h.2 i hi)⟩
def lateWait (md : Region.Mode) (ops : Array Oper) (late : List Nat) (listed : Array Bool) (i : Nat) : Bool :=
 late.all fun j => listed.getD j true || match ops[j]? with
  | none => true
  | some o => o.after.any fun e => Region.binds md e && e.on == i
theorem lateWait.spec {i j : Nat} {o : Oper} {listed : Array Bool} (h : lateWait md ops late listed i = true) (hi : listed.getD i true = false) (hj : j ∈ Region.ready md ops listed) (ho : ops[j]? = some o) : late.contains j = false := by
 cases hc : late.contains j with
 | false => rfl
 | true =>
  exfalso
  have h1 := List.all_eq_true.1 h j (by simpa using hc)
  rw [ho, (mem_ready.1 hj).1, Bool.false_or] at h1
  obtain ⟨e, he, hb⟩ := Array.any_eq_true'.1 h1
  rw [Bool.and_eq_true] at hb
  obtain ⟨_, o', ho', hall⟩ := mem_ready.1 hj
  cases ho.symm.trans ho'
  have h2 := hall e he hb.1
  rw [eq_of_beq hb.2] at h2
  rcases Nat.lt_or_ge i listed.size with h' | h'
  ·simp [h'] at hi h2; rw [hi] at h2; cases h2
  ·simp [Array.getElem?_eq_none h'] at h2
theorem lateWait.more {i j : Nat} {listed : Array Bool} (h : lateWait md ops late listed i = true) : lateWait md ops late (listed.setIfInBounds j true) i = true := by
 refine List.all_eq_true.2 fun k hk => ?_
 have h1 := List.all_eq_true.1 h k hk
 rw [Bool.or_eq_true] at h1 ⊢
 rcases h1 with h1 | h1
 ·refine .inl ?_
  by_cases hjk : j = k
  ·subst hjk
   rcases Nat.lt_or_ge j listed.size with h' | h'
   ·simp [h']
   ·simp [h']
  ·rw [getD_set_ne true hjk]; exact h1
 ·exact .inr h1
theorem wpAnyM_first {i : Nat} {oi : Oper} {v : Value} (hi : ops[i]? = some oi) (hsel : ∀ (j : Nat) (o : Oper) cs b, ops[j]? = some o → o.op ≠ .select cs b)
  (hQ : ∀ c a w, Q (.panic c) (a.put oi.dst v) w → Q (.panic c) a w) :
  ∀ (fuel : Nat) (listed : Array Bool) (a : Act) (w : World), lateWait md ops late listed i = true →
   (∀ j oj, ops[j]? = some oj → j ≠ i → listed.getD j true = false → (∀ e ∈ oj.after, Region.binds md e = true → e.on ≠ i) → oi.apart ops oj = true) →
   i ∈ Region.ready md ops listed → YieldsIf P ops S oi v a → S w →
   wpAnyM P md ops Q S late fuel (listed.setIfInBounds i true) (a.put oi.dst v) w → wpAnyM P md ops Q S late (fuel + 1) listed a w := by
 intro fuel
 induction fuel with
 | zero =>
  intro listed a w _ _ hr hy hS H
  refine ⟨fun h => (by rw [h] at hr; cases hr), fun j hj => ?_⟩
  by_cases hji : j = i
  ·subst hji; exact hy.wpOp hi hS ⟨fun _ => hS, H⟩
  ·have := ready_mono hj hji
   rw [H.1] at this
   cases this
 | succ fuel ih =>
  intro listed a w hl hfree hr hy hS H
  refine ⟨fun h => (by rw [h] at hr; cases hr), fun j hj => ?_⟩
  by_cases hji : j = i
  ·subst hji; exact hy.wpOp hi hS ⟨fun _ => hS, H⟩
  ·have h1 := H.2 j (ready_mono hj hji)
   obtain ⟨hjun, oj, hoj, hall⟩ := mem_ready.1 hj
   have h0 := (mem_ready.1 hr).1
   have hlate := lateWait.spec hl h0 hj hoj
   have hnot : ∀ e ∈ oj.after, Region.binds md e = true → e.on ≠ i := fun e he hb heq => by
    have h1 := hall e he hb
    rw [heq] at h1
    rcases Nat.lt_or_ge i listed.size with h' | h'
    ·simp [h'] at h0 h1; rw [h0] at h1; cases h1
    ·simp [Array.getElem?_eq_none h'] at h1
   have h2 := wpOp_putIf hoj (hfree j oj hoj hji hjun hnot) (fun cs b => hsel i oi cs b hi) (fun cs b => hsel j oj cs b hoj) hQ hy h1
   have hfree' : ∀ k ok, ops[k]? = some ok → k ≠ i → (listed.setIfInBounds j true).getD k true = false →
     (∀ e ∈ ok.after, Region.binds md e = true → e.on ≠ i) → oi.apart ops ok = true := fun k ok hk hki hun hno => by
    refine hfree k ok hk hki ?_ hno
    by_cases hjk : j = k
    ·subst hjk; exact hjun
    ·rw [getD_set_ne true hjk] at hun; exact hun
   refine wpOp_mono (fun a' w' h3 => ⟨h3.2.1, ih (listed.setIfInBounds j true) a' w' (lateWait.more hl) hfree' (ready_mono hr (Ne.symm hji)) h3.1 (h3.2.1 hlate) ?_⟩) h2
   rw [Array.setIfInBounds_comm _ _ hji]
   exact h3.2.2
theorem wpAnyM_take {i : Nat} {oi : Oper} {v : Value} {fuel : Nat} {listed : Array Bool} {a : Act} {w : World} (hi : ops[i]? = some oi)
  (hs : Region.noSelect ops = true) (hf : Region.free md ops listed i = true) (hr : (Region.ready md ops listed).contains i = true) (hl : lateWait md ops late listed i = true)
  (hQ : ∀ c a w, Q (.panic c) (a.put oi.dst v) w → Q (.panic c) a w) (hy : YieldsIf P ops S oi v a) (hS : S w)
  (h : wpAnyM P md ops Q S late fuel (listed.setIfInBounds i true) (a.put oi.dst v) w) : wpAnyM P md ops Q S late (fuel + 1) listed a w :=
 wpAnyM_first hi (Region.noSelect_spec hs) hQ fuel listed a w hl (Region.free_spec hi hf) (by simpa using hr) hy hS h
theorem nm : (∀ (a : Act) (i : Tmp) (v : Value), a.put (some i) v = ⟨a.tmps.setIfInBounds i v, a.defers⟩) ∧ (∀ (a : Act) (v : Value), a.put none v = a) ∧ (∀ (α : Type) (l : List α) (i : Nat) (x : α), l.toArray.setIfInBounds i x = (l.set i x).toArray) ∧ (∀ (α : Type) (x y : α) (l : List α), (x :: l).set 0 y = y :: l) ∧ (∀ (α : Type) (x y : α) (l : List α) (i : Nat), (x :: l).set (i + 1) y = x :: l.set i y) := ⟨fun _ _ _ => rfl, fun _ _ => rfl, fun _ l i x => List.setIfInBounds_toArray l i x, fun _ _ _ _ => rfl, fun _ _ _ _ _ => rfl⟩
theorem nr : (∀ (α : Type) (l : List α), l.toArray.size = l.length) ∧ (∀ (α : Type) (x : α) (l : List α), (x :: l).length = l.length + 1) ∧ (∀ α : Type, ([] : List α).length = 0) ∧ (∀ n : Nat, 0 + n = n) ∧ (∀ (α : Type) (n : Nat) (x : α), Array.replicate n x = ⟨List.replicate n x⟩) ∧ (∀ (α : Type) (x : α), List.replicate 0 x = []) ∧ (∀ (α : Type) (n : Nat) (x : α), List.replicate (n + 1) x = x :: List.replicate n x) := ⟨fun _ _ => rfl, fun _ _ _ => rfl, fun _ => rfl, Nat.zero_add, fun _ _ _ => rfl, fun _ _ => rfl, fun _ _ _ => rfl⟩
theorem tkM (i : Nat) {a0 : Option Tmp} {a1 : Op} {a2 : TypeId} {a3 : String} {a4 : Array Edge} {a5 : Option (Nat × Bool)} {fuel : Nat} {listed : Array Bool} {a : Act} {w : World} (v : Value) (hy : ∀ w, S w → (execOp a.eval ⟨a0, a1, a2, a3, a4, a5⟩).run P w = .ok (.value v) w) (hS : S w)
  (h : wpAnyM P md ops Q S late fuel (listed.setIfInBounds i true) (a.put a0 v) w) (hi : ops[i]? = some ⟨a0, a1, a2, a3, a4, a5⟩ := by rfl) (hs : Region.noSelect ops = true := by kernel_rfl) (hf : Region.free md ops listed i = true := by kernel_rfl) (hr : (Region.ready md ops listed).contains i = true := by kernel_rfl) (hl : lateWait md ops late listed i = true := by kernel_rfl)
  (hQ : ∀ c a w, Q (.panic c) (a.put a0 v) w → Q (.panic c) a w := by exact fun _ _ _ h => h) (hw : Region.wanted ⟨a0, a1, a2, a3, a4, a5⟩ (yielded ops a.tmps) = true := by rfl) : wpAnyM P md ops Q S late (fuel + 1) listed a w :=
 wpAnyM_take hi hs hf hr hl hQ (Or.inl ⟨hw, hy⟩) hS h
theorem tkA (i : Nat) {a0 : Option Tmp} {a1 : Op} {a2 : TypeId} {a3 : String} {a4 : Array Edge} {a5 : Option (Nat × Bool)} {fuel : Nat} {listed : Array Bool} {a : Act} {w : World} {v : Value} (hS : S w)
  (h : wpAnyM P md ops Q S late fuel (listed.setIfInBounds i true) (a.put a0 v) w) (hi : ops[i]? = some ⟨a0, a1, a2, a3, a4, a5⟩ := by rfl) (hs : Region.noSelect ops = true := by kernel_rfl) (hf : Region.free md ops listed i = true := by kernel_rfl) (hr : (Region.ready md ops listed).contains i = true := by kernel_rfl) (hl : lateWait md ops late listed i = true := by kernel_rfl)
  (hQ : ∀ c a w, Q (.panic c) (a.put a0 v) w → Q (.panic c) a w := by exact fun _ _ _ h => h) (hw : Region.wanted ⟨a0, a1, a2, a3, a4, a5⟩ (yielded ops a.tmps) = true := by rfl)
  (hy : ∀ w, S w → (execOp a.eval ⟨a0, a1, a2, a3, a4, a5⟩).run P w = .ok (.value v) w := by (intro w' hSw; (try dsimp only at hSw); go_simp; try (with_reducible rfl))) : wpAnyM P md ops Q S late (fuel + 1) listed a w :=
 wpAnyM_take hi hs hf hr hl hQ (Or.inl ⟨hw, hy⟩) hS h
theorem tkU (i : Nat) {a0 : Option Tmp} {a1 : Op} {a2 : TypeId} {a3 : String} {a4 : Array Edge} {a5 : Option (Nat × Bool)} {fuel : Nat} {listed : Array Bool} {a : Act} {w : World} (hS : S w) (h : wpAnyM P md ops Q S late fuel (listed.setIfInBounds i true) (a.put a0 undef) w) (hi : ops[i]? = some ⟨a0, a1, a2, a3, a4, a5⟩ := by rfl) (hs : Region.noSelect ops = true := by kernel_rfl) (hf : Region.free md ops listed i = true := by kernel_rfl) (hr : (Region.ready md ops listed).contains i = true := by kernel_rfl) (hl : lateWait md ops late listed i = true := by kernel_rfl)
  (hQ : ∀ c a w, Q (.panic c) (a.put a0 undef) w → Q (.panic c) a w := by exact fun _ _ _ h => h) (hw : Region.wanted ⟨a0, a1, a2, a3, a4, a5⟩ (yielded ops a.tmps) = false := by rfl) : wpAnyM P md ops Q S late (fuel + 1) listed a w :=
 wpAnyM_take hi hs hf hr hl hQ (Or.inr ⟨hw, rfl⟩) hS h
theorem wpAnyM_one {i : Nat} {o : Oper} {fuel : Nat} {listed : Array Bool} {a : Act} {w : World} (hr : Region.ready md ops listed = [i]) (ho : ops[i]? = some o)
  (h : ∀ K' : Act → World → Prop, Shut (∀ a w, S w → (S w → wpAnyM P md ops Q S late fuel (listed.setIfInBounds i true) a w) → K' a w) → if Region.wanted o (yielded ops a.tmps) = true then Oper.wp P o a w K' Q else K' (a.put o.dst undef) w) :
  wpAnyM P md ops Q S late (fuel + 1) listed a w := by
 refine ⟨fun h0 => absurd (hr ▸ h0) (by simp), fun j hj => ?_⟩
 rw [hr, List.mem_singleton] at hj
 subst hj
 exact wpOp_step ho (fun K' hK => h K' (fun a w hS hW => hK a w ⟨fun _ => hS, hW hS⟩))
theorem tkO (i : Nat) {a0 : Option Tmp} {a1 : Op} {a2 : TypeId} {a3 : String} {a4 : Array Edge} {a5 : Option (Nat × Bool)} {fuel : Nat} {listed : Array Bool} {a : Act} {w : World}
  (h : ∀ K' : Act → World → Prop, Shut (∀ a w, S w → (S w → wpAnyM P md ops Q S late fuel (listed.setIfInBounds i true) a w) → K' a w) → if Region.wanted ⟨a0, a1, a2, a3, a4, a5⟩ (yielded ops a.tmps) = true then Oper.wp P ⟨a0, a1, a2, a3, a4, a5⟩ a w K' Q else K' (a.put a0 undef) w)
  (hr : Region.ready md ops listed = [i] := by kernel_rfl) (ho : ops[i]? = some ⟨a0, a1, a2, a3, a4, a5⟩ := by rfl) :
  wpAnyM P md ops Q S late (fuel + 1) listed a w := wpAnyM_one hr ho h
theorem wpAnyM_last {i : Nat} {o : Oper} {fuel : Nat} {listed : Array Bool} {a : Act} {w : World} (hr : Region.ready md ops listed = [i]) (hl : late.contains i = true) (ho : ops[i]? = some o)
  (h : ∀ K' : Act → World → Prop, Shut (∀ a w, wpAnyM P md ops Q S late fuel (listed.setIfInBounds i true) a w → K' a w) → if Region.wanted o (yielded ops a.tmps) = true then Oper.wp P o a w K' Q else K' (a.put o.dst undef) w) :
  wpAnyM P md ops Q S late (fuel + 1) listed a w := by
 refine ⟨fun h0 => absurd (hr ▸ h0) (by simp), fun j hj => ?_⟩
 rw [hr, List.mem_singleton] at hj
 subst hj
 exact wpOp_step ho (fun K' hK => h K' (fun a w hW => hK a w ⟨fun hc => absurd (hl.symm.trans hc) (by simp), hW⟩))
theorem wpAnyM_two {i j : Nat} {oi oj : Oper} {fuel : Nat} {listed : Array Bool} {a : Act} {w : World} (hr : Region.ready md ops listed = [i, j]) (hoi : ops[i]? = some oi) (hoj : ops[j]? = some oj)
  (hi : ∀ K' : Act → World → Prop, Shut (∀ a w, S w → (S w → wpAnyM P md ops Q S late fuel (listed.setIfInBounds i true) a w) → K' a w) → if Region.wanted oi (yielded ops a.tmps) = true then Oper.wp P oi a w K' Q else K' (a.put oi.dst undef) w)
  (hj : ∀ K' : Act → World → Prop, Shut (∀ a w, S w → (S w → wpAnyM P md ops Q S late fuel (listed.setIfInBounds j true) a w) → K' a w) → if Region.wanted oj (yielded ops a.tmps) = true then Oper.wp P oj a w K' Q else K' (a.put oj.dst undef) w) :
  wpAnyM P md ops Q S late (fuel + 1) listed a w := by
 refine ⟨fun h0 => absurd (hr ▸ h0) (by simp), fun k hk => ?_⟩
 rw [hr, List.mem_cons, List.mem_singleton] at hk
 rcases hk with rfl | rfl
 ·exact wpOp_step hoi (fun K' hK => hi K' (fun a w hS hW => hK a w ⟨fun _ => hS, hW hS⟩))
 ·exact wpOp_step hoj (fun K' hK => hj K' (fun a w hS hW => hK a w ⟨fun _ => hS, hW hS⟩))
theorem wpAnyM_done {listed : Array Bool} {a : Act} {w : World} (hr : Region.ready md ops listed = []) (h : Q .normal a w) :
  ∀ fuel, wpAnyM P md ops Q S late fuel listed a w
 | 0 => ⟨hr, h⟩
 | _ + 1 => ⟨fun _ => h, fun i hi => by rw [hr] at hi; cases hi⟩
theorem wp_region_M {id : Nat} {a : Act} {w : World} (hm : P.follows .mixedOrders = true) (hS : S w.drew)
  (h : S w.drew → wpAnyM P .any ops Q S late ops.size (Array.replicate ops.size false) a w.drew) : (Code.region id ops true).wp P Q a w :=
 wp_region_any hm (wpAny_of_M _ _ _ _ (h hS))
end
end Go.Proofs.YtpcbhcdpegbfjaaGreat

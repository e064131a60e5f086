/-
  Put.
-/
import Derived.Test.YtlikikiglicdlaaWSess
import Derived.Test.YtlikikiglicdlaaWSpans2
namespace Go.Proofs.Ytlikikiglicdlaa
open Go.RowKit

def vOf (a v : Int) : Int := if a = 2 then 1 else v
def stepP (k a : Int) (r : Rc) (l : List Pn) (s : Sp) : List Pn := if k = 3 then pSess (jn a) l ⟨r.k, s.f, s.t, zr a⟩ (vOf a r.v) else addSp (jn a) ⟨r.k, s.f, s.t, zr a⟩ (vOf a r.v) l
def pPut (k size slide a : Int) (l : List Pn) (r : Rc) : List Pn := srt ((pSpans k size slide r.t).foldl (stepP k a r) l)
theorem stepP_len (k a : Int) (r : Rc) (l : List Pn) (s : Sp) : (stepP k a r l s).length ≤ l.length + 1 := by
  unfold stepP
  split
  · exact pSess_len _ _ _
  · exact addSp_len _ _ _
theorem fold_len (k a : Int) (r : Rc) (ss : List Sp) : ∀ l : List Pn, (ss.foldl (stepP k a r) l).length ≤ l.length + ss.length := by
  induction ss with
  | nil => intro l; simp
  | cons s ss ih => intro l; have h1 := ih (stepP k a r l s); have h2 := stepP_len k a r l s; simp only [List.foldl_cons, List.length_cons]; omega
theorem pPut_len (k size slide a : Int) (l : List Pn) (r : Rc) : (pPut k size slide a l r).length ≤ l.length + 64 := by
  unfold pPut
  rw [srt_len]
  have h1 := fold_len k a r (pSpans k size slide r.t) l
  have h2 := pSpans_len k size slide r.t
  omega
theorem BoxT.cells3 {t : TypeId} {w : World} {k : Nat} {c0 c1 c2 : Value} (h : BoxT t w k #[c0, c1, c2]) : w.cell? ⟨k, 0, none⟩ = some c0 ∧ w.cell? ⟨k, 1, none⟩ = some c1 ∧ w.cell? ⟨k, 2, none⟩ = some c2 := by
  unfold BoxT at h
  simp [World.cell?, h]
/-- What Put has under way. -/
structure PI (w wr : World) (k size slide : Int) (r : Rc) (v : Value) (l : List Pn) (sv : Value) (sps : List Sp) : Prop where
  row : OwnL 46 4 Pn.cs (w.heap.size + 1 + 1) wr v l
  bw : BoxT 23 wr w.heap.size #[.int .i64 k, .int .i64 size, .int .i64 slide]
  br : BoxT 37 wr (w.heap.size + 1) #[.int .i64 r.k, .int .i64 r.t, .int .i64 r.v]
  sp : OwnL 31 2 Sp.cs (w.heap.size + 1 + 1) wr sv sps
  bel : Below w.heap.size w wr
theorem PI.below {w wr w' : World} {k size slide : Int} {r : Rc} {v : Value} {l : List Pn} {sv : Value} {sps : List Sp} (h : PI w wr k size slide r v l sv sps) (hb : Below wr.heap.size wr w') : PI w w' k size slide r v l sv sps :=
  ⟨h.row.below hb, BoxT.below (t := 23) h.bw hb, BoxT.below (t := 37) h.br hb, h.sp.below hb, h.bel.trans (hb.mono h.bel.size)⟩
theorem PI.grown {w wr w' : World} {k size slide : Int} {r : Rc} {v v' : Value} {l l' : List Pn} {sv : Value} {sps : List Sp} (h : PI w wr k size slide r v l sv sps) (hg : wr.grownBy w' v.ownBlock) (o : OwnL 46 4 Pn.cs (w.heap.size + 1 + 1) w' v' l') : PI w w' k size slide r v' l' sv sps := by
  have hK : ∀ g, v.ownBlock = some g → w.heap.size + 1 + 1 ≤ g := fun g e => h.row.at g e
  refine ⟨o, ?_, ?_, h.sp.back (fun g e => ?_), h.bel.grown hg h.bel.size (fun g e => by have := hK g e; omega)⟩
  · have h1 := h.bw
    have h2 := h1.lt
    unfold BoxT at *
    rw [hg.block _ h2 (fun e => by have := hK _ e.symm; omega)]; exact h1
  · have h1 := h.br
    have h2 := h1.lt
    unfold BoxT at *
    rw [hg.block _ h2 (fun e => by have := hK _ e.symm; omega)]; exact h1
  · refine hg.block g (h.sp.lt g e) (fun e' => ?_)
    obtain ⟨c1, h1⟩ := h.sp.has g e
    obtain ⟨c2, h2⟩ := h.row.has g e'.symm
    rw [h1] at h2
    simp at h2
theorem OwnL.set3 {base : Nat} {w : World} {ao : Option Addr} {n cap : Nat} {l : List Pn} (h : OwnL 46 4 Pn.cs base w (.slice ao n cap) l) {i : Nat} {p : Pn} (hp : l[i]? = some p) : ∃ g, ao = some ⟨g, 0, none⟩ ∧ n = l.length ∧ base ≤ g ∧ w.cell? ⟨g, i * 4 + 3, none⟩ = some (.int .i64 p.a) ∧ (∀ j, w.frozen? ⟨g, j, none⟩ = false) ∧ ∀ w' : World, w'.heap[g]? = w.heap[g]? → ∀ x, OwnL 46 4 Pn.cs base (w'.setCell ⟨g, i * 4 + 3, none⟩ (.int .i64 x)) (.slice ao n cap) (l.set i (withA p x)) := by
  have hil := lt_of_get hp
  rcases h.2 with ⟨_, h0⟩ | ⟨g, cap', cur, e, h2, h3, h4, h5, h6, h7⟩
  · omega
  · cases e
    have hb : BoxT 46 w g cur := h3
    have hcell : cur[i * 4 + 3]? = some (.int .i64 p.a) := by
      have h8 := flat_get Pn.cs_len l i 3 p _ hp rfl
      rw [← h7, List.getElem?_take] at h8
      split at h8
      · simpa using h8
      · cases h8
    refine ⟨g, rfl, rfl, h2, by rw [hb.cellAt]; exact hcell, fun j => hb.free j, fun w' hw' x => ?_⟩
    have hb' : BoxT 46 w' g cur := by unfold BoxT at *; rw [hw']; exact hb
    refine ⟨by rw [flat_size Pn.cs_len], .inr ⟨g, cap, cur.setIfInBounds (i * 4 + 3) (.int .i64 x), by simp, h2, hb'.set _ _, by simpa using h4, h5, by simpa using h6, ?_⟩⟩
    apply List.ext_getElem?
    intro q
    rw [List.getElem?_take, List.length_set]
    by_cases hq : q < l.length * 4
    · rw [if_pos hq, Array.getElem?_toList]
      have hq4 : q / 4 < l.length := by omega
      have hm4 : ∀ y : Pn, q % 4 < y.cs.length := fun y => by rw [Pn.cs_len]; omega
      by_cases hqi : q / 4 = i
      · have hx : (l.set i (withA p x))[q / 4]? = some (withA p x) := by rw [hqi, List.getElem?_set_self hil]
        obtain ⟨u, hu⟩ := get_of_lt (hm4 (withA p x))
        have h9 := flat_get Pn.cs_len _ (q / 4) (q % 4) _ u hx hu
        rw [show q / 4 * 4 + q % 4 = q by omega] at h9
        rw [h9]
        by_cases h33 : q % 4 = 3
        · rw [show i * 4 + 3 = q by omega, Array.getElem?_setIfInBounds_self_of_lt (by have := lt_of_get (l := cur.toList) (by rw [Array.getElem?_toList]; exact hcell); simp at this; omega)]
          rw [h33] at hu
          simp [Pn.cs, withA] at hu
          rw [hu]
        · rw [Array.getElem?_setIfInBounds_ne (by omega)]
          have hu2 : p.cs[q % 4]? = some u := by
            have : q % 4 = 0 ∨ q % 4 = 1 ∨ q % 4 = 2 := by omega
            rcases this with e | e | e <;> rw [e] at hu ⊢ <;> simpa [Pn.cs, withA] using hu
          have h8 := flat_get Pn.cs_len l i (q % 4) p u hp hu2
          rw [← h7, List.getElem?_take] at h8
          split at h8
          · rw [show i * 4 + q % 4 = q by omega] at h8; simpa using h8
          · cases h8
      · obtain ⟨y, hy⟩ := get_of_lt hq4
        have hx : (l.set i (withA p x))[q / 4]? = some y := by rw [List.getElem?_set_ne (fun e => hqi e.symm)]; exact hy
        obtain ⟨u, hu⟩ := get_of_lt (hm4 y)
        have h9 := flat_get Pn.cs_len _ (q / 4) (q % 4) _ u hx hu
        rw [show q / 4 * 4 + q % 4 = q by omega] at h9
        rw [h9, Array.getElem?_setIfInBounds_ne (by omega)]
        have h8 := flat_get Pn.cs_len l (q / 4) (q % 4) y u hy hu
        rw [← h7, List.getElem?_take] at h8
        split at h8
        · rw [show q / 4 * 4 + q % 4 = q by omega] at h8; simpa using h8
        · cases h8
    · rw [if_neg hq, List.getElem?_eq_none (by rw [flat_size Pn.cs_len, List.length_set]; omega)]
end Go.Proofs.Ytlikikiglicdlaa

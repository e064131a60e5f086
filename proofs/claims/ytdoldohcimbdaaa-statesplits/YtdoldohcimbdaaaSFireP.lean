/-
  Fire, the pure side: what is left of panes and sessions when a watermark has come.
-/
import Derived.Test.YtdoldohcimbdaaaSEnd
import Derived.Test.YtdoldohcimbdaaaSWFire
namespace Go.Proofs.Ytdoldohcimbdaaa
open Go.RowKit

theorem ovr_eq (mk : Int) (x : Pn) : ovr mk x = ovm mk ⟨x.f, x.t⟩ := rfl
theorem end_inv {kd : Int} {M : List Pn} {R D E : List SRow} {mk : Int} (h : Inv kd M R) (hp : R.Perm D) (he : E.map (fun r => (r.k, r.l)) = (D.filter (fun r => !(endR mk r).isEmpty)).map (fun r => (r.k, endR mk r))) : Inv kd (leftF mk M) E := by
  have fw : ∀ r ∈ E, ∃ q ∈ R, q.k = r.k ∧ r.l = keepO mk q.l := fun r hr => by
    have h1 : (r.k, r.l) ∈ E.map (fun r => (r.k, r.l)) := List.mem_map.2 ⟨r, hr, rfl⟩
    rw [he] at h1
    obtain ⟨q, hq, e⟩ := List.mem_map.1 h1
    simp only [Prod.mk.injEq] at e
    exact ⟨q, hp.mem_iff.2 (List.mem_filter.1 hq).1, e.1, e.2.symm⟩
  have bw : ∀ q ∈ R, ∀ sp ∈ keepO mk q.l, ∃ r ∈ E, r.k = q.k ∧ sp ∈ r.l := fun q hq sp hs => by
    have h2 : (!(endR mk q).isEmpty) = true := by
      cases hk : endR mk q with
      | nil => rw [show keepO mk q.l = endR mk q from rfl, hk] at hs; cases hs
      | cons _ _ => rfl
    have h1 : (q.k, endR mk q) ∈ (D.filter (fun r => !(endR mk r).isEmpty)).map (fun r => (r.k, endR mk r)) := List.mem_map.2 ⟨q, List.mem_filter.2 ⟨hp.mem_iff.1 hq, h2⟩, rfl⟩
    rw [← he] at h1
    obtain ⟨r, hr, e⟩ := List.mem_map.1 h1
    simp only [Prod.mk.injEq] at e
    exact ⟨r, hr, e.1, by rw [e.2]; exact hs⟩
  refine ⟨fun hk => ?_, fun hk x hx hlt => ?_, fun r hr sp hsp => ?_, fun r hr => ?_⟩
  · have hR := h.none hk
    cases E with
    | nil => rfl
    | cons r T =>
      obtain ⟨q, hq, _⟩ := fw r (List.mem_cons_self ..)
      rw [hR] at hq; cases hq
  · obtain ⟨h1, h2⟩ := List.mem_filter.1 hx
    obtain ⟨q, hq, e1, e2⟩ := h.up hk x h1 hlt
    rw [ovr_eq] at h2
    obtain ⟨r, hr, e3, e4⟩ := bw q hq _ (List.mem_filter.2 ⟨e2, h2⟩)
    exact ⟨r, hr, e3.trans e1, e4⟩
  · obtain ⟨q, hq, e1, e2⟩ := fw r hr
    rw [e2] at hsp
    obtain ⟨h1, h2⟩ := List.mem_filter.1 hsp
    obtain ⟨h3, x, h4, h5, h6, h7⟩ := h.dn q hq sp h1
    refine ⟨h3, x, List.mem_filter.2 ⟨h4, ?_⟩, h5.trans e1, h6, h7⟩
    rw [ovr_eq, h6, h7]; exact h2
  · obtain ⟨q, hq, _, e2⟩ := fw r hr
    rw [e2]
    exact (h.rise q hq).sublist List.filter_sublist
/-- The panes that are due, and those that are left. -/
theorem due_left (mk : Int) (M : List Pn) : M.Perm (M.filter (ovr mk) ++ leftF mk M) := (List.filter_append_perm (ovr mk) M).symm
theorem out_due {mk : Int} {c M : List Pn} (h : c.Perm (M.filter (ovr mk))) : (srt c).filter (ovr mk) = srt c := by
  refine List.filter_eq_self.2 (fun x hx => ?_)
  exact (List.mem_filter.1 (h.mem_iff.1 ((srt_perm c).mem_iff.1 hx))).2
end Go.Proofs.Ytdoldohcimbdaaa

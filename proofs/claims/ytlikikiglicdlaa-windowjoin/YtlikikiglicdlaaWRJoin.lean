/-
  The document's Join, walked.
-/
import Derived.Test.YtlikikiglicdlaaWMerge
namespace Go.Proofs.Ytlikikiglicdlaa
open Go.RowKit

theorem join_is {a : Int} {l M : List Pn} (h : ∀ x ∈ l, Full x) (hc : Comes true (jn a) l M) (hr : Rising M) : M = pJoin (jn a) l :=
  rising_eq hr (join_rising ..) (Comes.unique (jn_comm a) (jn_assoc a) hc (join_comes (jn a) h))
set_option maxHeartbeats 8000000 in
set_option maxRecDepth 100000 in
theorem rJoin_any {w : World} {v : Value} {l : List Pn} (hl : LSeg 4 Pn.cs w.heap.size w v l) (hn : l.length ≤ 40000) (hfl : ∀ x ∈ l, Full x) (a : Int) :
    Calls Try.prog 26 #[.int .i64 a, v] w fun e w' => ∃ u, e = .returned u ∧ LSeg 4 Pn.cs w'.heap.size w' u (pJoin (jn a) l) ∧ Below w.heap.size w w' := by
  obtain ⟨ao, cap, rfl⟩ := hl.shapeOf
  have HL := hide hl
  have HFL := hide hfl
  have HIS : Hid (∀ M, Comes true (jn a) l M → Rising M → M = pJoin (jn a) l) := (show ∀ M, _ from fun M h1 h2 => join_is hfl h1 h2)
  clear hl hfl
  generalize pJoin (jn a) l = PJ at *
  go_enter Try.func26, Try.ntmps26
  go_wp2_with fail
  go_loopg [5, 6] (l.length + 1) (fun gh ov iv wr => ∃ (i : Nat) (M : List Pn), iv = .int .i64 (i : Int) ∧ i ≤ l.length ∧ l.length + 1 ≤ gh + i ∧ Hid (LSeg 4 Pn.cs wr.heap.size wr ov M) ∧ Hid (Below w.heap.size w wr) ∧ Hid (Comes true (jn a) (l.take i) M) ∧ Hid (Rising M))
  case atStart => exact ⟨0, [], rfl, by omega, by omega, LSeg.nil' _ _ _ _, Below.refl _ _, (show Comes _ _ _ _ from Comes.refl .nil), (show Rising _ from .nil)⟩
  case round =>
    obtain ⟨i, M, rfl, hi, hg, GM, GB, GC, GR⟩ := hrel
    obtain ⟨go, rfl⟩ : ∃ go, gk = go + 1 := ⟨gk - 1, by omega⟩
    obtain ⟨ma, mc, rfl⟩ := GM.out.shapeOf
    by_cases hlt : i < l.length
    · obtain ⟨x, hx⟩ := get_of_lt hlt
      have bt : (i : Int) < (l.length : Int) := by omega
      obtain ⟨nb, no, rfl, nlt, e0, e1, e2, e3⟩ := (HL.out.below GB.out).pane hx
      have HXF := hide (HFL.out x (List.mem_of_getElem? hx))
      have HTK : Hid (l.take (i + 1) = l.take i ++ [x]) := (show _ = _ by
        have e : l[i] = x := by rw [List.getElem?_eq_getElem hlt] at hx; exact Option.some.inj hx
        rw [List.take_succ_eq_append_getElem hlt, e])
      have HML : Hid (M.length ≤ 40000) := (show _ ≤ _ by have h1 := GC.out.1.len; rw [List.length_take] at h1; omega)
      have HMF : Hid (∀ y ∈ M, Full y) := (show ∀ y, _ from GC.out.1.keeps (fun x y => jp_full) (fun y hy => HFL.out y (List.mem_of_mem_take hy)))
      have HME := hide (rmerge_any GM.out (by have := HML.out; omega) HMF.out HXF.out a)
      obtain ⟨xk, xf, xt, xa⟩ := x
      have HV : Hid ((⟨xk, xf, xt, xa⟩ : Pn).val = .agg #[.int .i64 xk, .int .i64 xf, .int .i64 xt, .int .i64 xa]) := (show _ = _ from rfl)
      rw [HV.out] at HME
      simp only at e0 e1 e2 e3
      clear hx nlt HV
      go_wp2_with (first | (go_at_call 41; refine HME.out.mono ?_; rintro e w5 ⟨u5, M5, rfl, o5, b5, r5, d5, p5⟩; have S5 := hide (o5.seg Pn.cs_len (by have h1 := d5.len; have := HML.out; simp at h1; omega)); have B5 := hide (GB.out.trans (b5.mono GB.out.size)); have R5 := hide r5; have C5 : Hid (Comes true (jn a) ([⟨xk, xf, xt, xa⟩] ++ l.take i) M5) := (show Comes _ _ _ _ from Comes.step GC.out ⟨d5, p5 GC.out.2⟩); obtain ⟨ua, uc, rfl⟩ := o5.shape; clear o5 b5 r5 d5 p5) | fail)
      go_roundg go
      case rel => exact ⟨i + 1, M5, by go_num, by omega, by omega, S5, B5, (show Comes _ _ _ _ by rw [HTK.out]; exact C5.out.perm List.perm_append_comm (.refl _)), R5⟩
      case measure => omega
    · obtain rfl : i = l.length := by omega
      have bt : ¬ ((l.length : Nat) : Int) < (l.length : Int) := by omega
      have HE := hide (HIS.out M (by have := GC.out; rwa [List.take_of_length_le (Nat.le_refl _)] at this) GR.out)
      go_wp2_with fail
      go_ret
      exact ⟨_, rfl, by rw [← HE.out]; exact GM.out, GB.out⟩
end Go.Proofs.Ytlikikiglicdlaa

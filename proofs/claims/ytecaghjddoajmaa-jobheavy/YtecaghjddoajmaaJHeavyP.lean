/-
  Heavy jobs: their weights. No program in it.
-/
import Derived.Test.YtecaghjddoajmaaJRefWts
namespace Go.Proofs.Ytecaghjddoajmaa
open Go.RowKit

def stepW (n : Nd) (p : Nat) : Nat := if n.kind = 1 then 1 else min (n.ins.length * p * mulN n) 65
/-- The weights of nodes in a row. -/
def wseq (ns : List Nd) : List Nat := ns.foldl (fun acc n => acc ++ [stepW n (acc.getLastD 0)]) []
theorem wseq_snoc (ns : List Nd) (n : Nd) : wseq (ns ++ [n]) = wseq ns ++ [stepW n ((wseq ns).getLastD 0)] := by
  unfold wseq
  rw [List.foldl_append]
  rfl
theorem wseq_len (ns : List Nd) : (wseq ns).length = ns.length := by
  have : ∀ (l : List Nd) (acc : List Nat), (l.foldl (fun acc n => acc ++ [stepW n (acc.getLastD 0)]) acc).length = acc.length + l.length := by
    intro l
    induction l with
    | nil => intro acc; rfl
    | cons x r ih => intro acc; rw [List.foldl_cons, ih]; simp; omega
  unfold wseq
  rw [this]; simp
theorem mxN_snoc (l : List Nat) (x : Nat) : mxN (l ++ [x]) = max (mxN l) x := by
  unfold mxN
  rw [List.foldl_append]
  rfl
theorem stepW_le (n : Nd) (p : Nat) : stepW n p ≤ 65 := by
  unfold stepW
  split <;> omega
theorem sumN_const {ins : List Int} {c : Int} {ws : List Nat} (h : ∀ x ∈ ins, x = c) : sumN ins ws = ins.length * ws.getD c.toNat 0 := by
  unfold sumN
  induction ins with
  | nil => simp
  | cons x r ih =>
    rw [List.map_cons, List.sum_cons, ih (fun y hy => h y (by simp [hy])), h x (by simp), List.length_cons, Nat.add_mul]
    omega
theorem Shp.none_iff {n : Nd} (h : Shp n) : n.kind = 1 ↔ n.ins = [] := by
  obtain ⟨-, -, h⟩ := h
  rw [← List.length_eq_zero_iff]
  omega
theorem lastD_eq {l : List Nat} {t : Nat} (h : l.length = t + 1) : l.getLastD 0 = l.getD t 0 := by
  rw [List.getLastD_eq_getLast?, List.getLast?_eq_getElem?, h, List.getD_eq_getElem?_getD]
  rfl
theorem wts_row {ns : List Nd} (h : InRow ns) : wts ns = wseq ns := by
  have key : ∀ t, t ≤ ns.length → wtsL ns (List.range t) (List.replicate ns.length 0) = wseq (ns.take t) ++ List.replicate (ns.length - t) 0 := by
    intro t
    induction t with
    | zero => intro _; simp [wtsL, wseq]
    | succ t ih =>
      intro ht
      have ih := ih (by omega)
      obtain ⟨n, hn⟩ := get_of_lt (l := ns) (i := t) (by omega)
      have hl : t < ns.length := by omega
      have htk : ns.take (t + 1) = ns.take t ++ [n] := by
        rw [List.take_add_one, hn]; rfl
      have hwl : (wseq (ns.take t)).length = t := by rw [wseq_len, List.length_take]; omega
      unfold wtsL at *
      rw [List.range_succ, List.foldl_append, ih, htk, wseq_snoc]
      simp only [List.foldl_cons, List.foldl_nil]
      rw [getD_of hn]
      have hst : wt1 n (wseq (ns.take t) ++ List.replicate (ns.length - t) 0) = stepW n ((wseq (ns.take t)).getLastD 0) := by
        have hs := h.shp n (List.mem_of_getElem? hn)
        obtain ⟨c0, c1⟩ := h.ch t n.ins (by rw [List.getElem?_map, hn]; rfl)
        unfold wt1 stepW
        by_cases t0 : t = 0
        · rw [if_pos (hs.none_iff.2 (c0 t0)), if_pos (hs.none_iff.2 (c0 t0))]
        · obtain ⟨d1, d2⟩ := c1 (by omega)
          have hk : ¬ n.kind = 1 := fun e => d1 (hs.none_iff.1 e)
          rw [if_neg hk, if_neg hk, sumN_const d2]
          obtain ⟨u, rfl⟩ : ∃ u, t = u + 1 := ⟨t - 1, by omega⟩
          have hu : ((((u + 1 : Nat)) : Int) - 1).toNat = u := by omega
          rw [hu, lastD_eq hwl]
          congr 3
          rw [List.getD_eq_getElem?_getD, List.getD_eq_getElem?_getD, List.getElem?_append_left (by omega)]
      rw [hst]
      obtain ⟨d, hd⟩ : ∃ d, ns.length - t = d + 1 := ⟨ns.length - t - 1, by omega⟩
      rw [hd, show ns.length - (t + 1) = d by omega, List.replicate_succ, List.set_append_right _ _ (by omega), hwl, Nat.sub_self]
      simp
  unfold wts
  rw [h.ordC, key ns.length (Nat.le_refl _), List.take_length, Nat.sub_self]
  simp
theorem ckE_shp {ns : List Nd} {n : Nd} (hs : Shp n) (ho : InOk ns n) : ckE ns n = 0 := by
  have hall : n.ins.all (okIn (ns.map Nd.kind)) = true := List.all_eq_true.2 fun x hx => by
    obtain ⟨f, m, rfl, hm, h8⟩ := ho x hx
    have hfl := lt_of_get hm
    unfold okIn
    rw [Int.toNat_natCast, getD_of (show (ns.map Nd.kind)[f]? = some m.kind by rw [List.getElem?_map, hm]; rfl), Bool.and_eq_true]
    simp only [decide_eq_true_eq, List.length_map]
    exact ⟨⟨by omega, by omega⟩, h8⟩
  obtain ⟨kd, ia, icp, ins, par, e, ag, wk, ws, wl⟩ := n
  obtain ⟨he, hp, hk⟩ := hs
  simp only at he hp hk hall
  subst he hp
  unfold ckE ckN
  simp only
  have hin : inB (ns.map Nd.kind) kd ins = true := by
    unfold inB cntOk
    rw [hall, Bool.and_true]
    rcases hk with ⟨rfl, hl, -⟩ | ⟨rfl, hl, -⟩ | ⟨rfl, hl, -⟩ | ⟨rfl, hl, -⟩ | ⟨rfl, hl, -⟩
    · rw [if_pos rfl]; exact decide_eq_true hl
    · rw [if_neg (by decide), if_pos rfl]; exact decide_eq_true hl
    · rw [if_neg (by decide), if_neg (by decide)]; exact decide_eq_true hl
    · rw [if_neg (by decide), if_neg (by decide)]; exact decide_eq_true hl
    · rw [if_neg (by decide), if_neg (by decide)]; exact decide_eq_true hl
  rw [hin]
  rcases hk with ⟨rfl, hl, rfl, rfl, rfl, rfl⟩ | ⟨rfl, hl, rfl, rfl, rfl, rfl⟩ | ⟨rfl, hl, rfl, rfl, rfl, rfl⟩ | ⟨rfl, hl, rfl, rfl, hw1, hw2⟩ | ⟨rfl, hl, rfl, rfl, rfl, rfl⟩
  · rfl
  · rfl
  · rfl
  · have h1 : spanB ws = true := decide_eq_true (by omega)
    have h2 : spanB wl = true := decide_eq_true (by omega)
    have h3 : winB 7 2 ws wl = true := by unfold winB; rw [if_pos rfl, if_pos rfl, h1, h2]; rfl
    rw [h3]
    rfl
  · rfl
theorem fault_none {ns : List Nd} : ∀ {l : List Nd}, (∀ n ∈ l, ckE ns n = 0) → fault ns l = 0
  | [], _ => rfl
  | m :: r, h => by rw [fault, if_pos (h m (by simp))]; exact fault_none (fun n hn => h n (by simp [hn]))
theorem errW_row {ns : List Nd} (h : InRow ns) : errW ns = 0 := by
  have h1 := h.l1
  have h2 := h.l2
  have hf : fault ns ns = 0 := fault_none fun n hn => ckE_shp (h.shp n hn) (h.ok n hn)
  unfold errW
  rw [if_neg (by omega), hf, if_neg (by simp), h.ordC, List.length_range, if_neg (by omega)]
theorem errJ_row {ns : List Nd} (h : InRow ns) (h8 : (ns.any fun n => decide (n.kind = 8)) = true) : errJ ns = if 64 < mxN (wseq ns) then 88 else 0 := by
  unfold errJ
  rw [errW_row h, if_neg (by simp), wts_row h, h8]
  simp
/-- What a law has made so far: nodes in a row, no sink; the last one's weight; whether one is too heavy. -/
structure Hv (ns : List Nd) (t p : Nat) (hv : Bool) : Prop where
  len : ns.length = t + 1
  at_ : ∀ (i : Nat) (n : Nd), ns[i]? = some n → Shp n ∧ n.kind ≠ 8 ∧ (i = 0 → n.ins = []) ∧ (0 < i → n.ins ≠ [] ∧ ∀ x ∈ n.ins, x = (i : Int) - 1)
  last : (wseq ns).getLastD 0 = p
  hvy : hv = decide (64 < mxN (wseq ns))
theorem Hv.p65 {ns : List Nd} {t p : Nat} {hv : Bool} (h : Hv ns t p hv) : p ≤ 65 := by
  have hl := h.len
  rw [← h.last]
  match ns, hl with
  | ns, hl =>
    obtain ⟨r, n, rfl⟩ : ∃ r n, ns = r ++ [n] := ⟨ns.dropLast, ns.getLast (by intro e; rw [e] at hl; simp at hl), (List.dropLast_concat_getLast _).symm⟩
    rw [wseq_snoc, List.getLastD_concat]
    exact stepW_le _ _
theorem snoc_get {α : Type} {l : List α} {x y : α} {i : Nat} (h : (l ++ [x])[i]? = some y) : (i < l.length ∧ l[i]? = some y) ∨ (i = l.length ∧ y = x) := by
  by_cases hi : i < l.length
  · rw [List.getElem?_append_left hi] at h; exact .inl ⟨hi, h⟩
  · rw [List.getElem?_append_right (by omega)] at h
    have : i - l.length = 0 := by
      have := lt_of_get h
      simp at this
      omega
    rw [this] at h
    exact .inr ⟨by omega, by simpa using h.symm⟩
theorem Hv.push {ns : List Nd} {t p : Nat} {hv : Bool} (h : Hv ns t p hv) {n : Nd} (hs : Shp n) (h8 : n.kind ≠ 8) (hn : n.ins ≠ []) (hx : ∀ x ∈ n.ins, x = (t : Int)) {q : Nat} {hv' : Bool} (hq : stepW n p = q) (hh : hv' = (hv || decide (64 < q))) : Hv (ns ++ [n]) (t + 1) q hv' := by
  refine ⟨by rw [List.length_append, h.len]; rfl, fun i m hm => ?_, ?_, ?_⟩
  · rcases snoc_get hm with ⟨_, hm⟩ | ⟨hi, rfl⟩
    · exact h.at_ i m hm
    · rw [h.len] at hi
      exact ⟨hs, h8, fun e => by omega, fun _ => ⟨hn, fun x hxm => by rw [hx x hxm]; omega⟩⟩
  · rw [wseq_snoc, h.last, hq, List.getLastD_concat]
  · rw [hh, h.hvy, wseq_snoc, h.last, hq, mxN_snoc]
    rw [Bool.eq_iff_iff]
    simp only [Bool.or_eq_true, decide_eq_true_eq]
    omega
theorem Hv.row {ns : List Nd} {t p : Nat} {hv : Bool} (h : Hv ns t p hv) (ht : t ≤ 9) {n : Nd} (hs : Shp n) (h8 : n.kind = 8) (hi : n.ins = [(t : Int)]) : InRow (ns ++ [n]) := by
  have hlen := h.len
  refine ⟨by simp, by simp; omega, fun m hm => ?_, fun m hm => ?_, fun i is his => ?_⟩
  · rcases List.mem_append.1 hm with hm | hm
    · obtain ⟨i, hi⟩ := List.getElem?_of_mem hm
      exact (h.at_ i m hi).1
    · rw [List.mem_singleton.1 hm]; exact hs
  · obtain ⟨i, hmi⟩ := List.getElem?_of_mem hm
    have hil := lt_of_get hmi
    rw [List.length_append, List.length_singleton] at hil
    intro x hx
    have key : ∃ j : Nat, x = (j : Int) ∧ j < ns.length := by
      rcases snoc_get hmi with ⟨hi2, hmi⟩ | ⟨hi2, rfl⟩
      · obtain ⟨_, _, c0, c1⟩ := h.at_ i m hmi
        by_cases i0 : i = 0
        · rw [c0 i0] at hx; cases hx
        · exact ⟨i - 1, by rw [(c1 (by omega)).2 x hx]; omega, by omega⟩
      · rw [hi] at hx
        exact ⟨t, by simpa using hx, by omega⟩
    obtain ⟨j, rfl, hj⟩ := key
    obtain ⟨m', hm'⟩ := get_of_lt hj
    exact ⟨j, m', rfl, by rw [List.getElem?_append_left hj]; exact hm', (h.at_ j m' hm').2.1⟩
  · rw [List.getElem?_map] at his
    obtain ⟨m, hm, rfl⟩ := Option.map_eq_some_iff.1 his
    rcases snoc_get hm with ⟨_, hm⟩ | ⟨hi2, rfl⟩
    · exact (h.at_ i m hm).2.2
    · rw [hi]
      exact ⟨fun e => by omega, fun _ => ⟨by simp, fun x hx => by have : x = (t : Int) := by simpa using hx
                                                                  omega⟩⟩
/-- What is told of it in the end. -/
theorem Hv.fin {ns : List Nd} {t p : Nat} {hv : Bool} (h : Hv ns t p hv) (ht : t ≤ 9) {n : Nd} (hs : Shp n) (h8 : n.kind = 8) (hi : n.ins = [(t : Int)]) :
    InRow (ns ++ [n]) ∧ errW (ns ++ [n]) = 0 ∧ errJ (ns ++ [n]) = (if hv = true then 88 else 0) ∧ (wts (ns ++ [n]))[t + 1]? = some p ∧ ∀ m ∈ ns ++ [n], ¬ (2 ≤ m.kind ∧ m.kind ≤ 4) := by
  have hr := h.row ht hs h8 hi
  have h65 := h.p65
  have hmul : mulN n = 1 := by unfold mulN; rw [if_neg (by omega)]
  have hst : stepW n p = p := by
    unfold stepW
    rw [if_neg (by omega), hi, hmul]
    simp
    omega
  have hws : wseq (ns ++ [n]) = wseq ns ++ [p] := by rw [wseq_snoc, h.last, hst]
  have hpm : p ≤ mxN (wseq ns) := by
    have hl := wseq_len ns
    rw [h.len] at hl
    obtain ⟨l, x, hlx⟩ : ∃ l x, wseq ns = l ++ [x] := ⟨(wseq ns).dropLast, (wseq ns).getLast (by intro e; rw [e] at hl; simp at hl), (List.dropLast_concat_getLast _).symm⟩
    have := h.last
    rw [hlx, List.getLastD_concat] at this
    rw [hlx, mxN_snoc, this]
    omega
  refine ⟨hr, errW_row hr, ?_, ?_, fun m hm => ?_⟩
  · rw [errJ_row hr (by rw [List.any_append]; simp [h8]), hws, mxN_snoc, h.hvy]
    have : max (mxN (wseq ns)) p = mxN (wseq ns) := by omega
    rw [this]
    simp
  · rw [wts_row hr, hws, List.getElem?_append_right (by rw [wseq_len, h.len]; omega), wseq_len, h.len, Nat.sub_self]
    rfl
  · obtain ⟨-, -, hk⟩ := hr.shp m hm
    omega
theorem Hv.init : Hv [cSrc] 0 1 false := by
  refine ⟨rfl, fun i n hn => ?_, by decide, by decide⟩
  match i, hn with
  | 0, hn =>
    cases hn
    exact ⟨⟨rfl, rfl, .inl ⟨rfl, rfl, rfl, rfl, rfl, rfl⟩⟩, by decide, fun _ => rfl, fun h => absurd h (by omega)⟩
end Go.Proofs.Ytecaghjddoajmaa

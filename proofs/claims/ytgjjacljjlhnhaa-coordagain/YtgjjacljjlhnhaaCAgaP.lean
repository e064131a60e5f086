/-
  CoordAgain: its states.
-/
import Derived.Test.YtgjjacljjlhnhaaCAgaF
namespace Go.Proofs.Ytgjjacljjlhnhaa
open Go.RowKit

/-- The tasks of CoordAgain. -/
def tl (n : Nat) : List Int := (rl n).map fun x => 10 + x
theorem tl_succ (n : Nat) : tl (n + 1) = tl n ++ [10 + (n : Int)] := by unfold tl; rw [rl_succ, List.map_append]; rfl
theorem tl_len (n : Nat) : (tl n).length = n := by unfold tl; rw [List.length_map, rl_len]
theorem tl_nodup (n : Nat) : (tl n).Nodup := by
  induction n with
  | zero => exact List.nodup_nil
  | succ n ih =>
    rw [tl_succ]
    refine List.nodup_append.2 ⟨ih, by simp, fun a ha b hb e => ?_⟩
    rw [List.mem_singleton] at hb
    unfold tl at ha
    obtain ⟨x, hx, rfl⟩ := List.mem_map.1 ha
    have := (rl_mem.1 hx).2
    omega
theorem tl64 {n : Nat} (h : n ≤ 1000000) : ∀ x ∈ tl n, In64 x := fun x hx => by
  unfold tl at hx
  obtain ⟨y, hy, rfl⟩ := List.mem_map.1 hx
  have := rl_mem.1 hy
  unfold In64
  omega
theorem inn_self (l : List Int) : inn l l = l := List.filter_eq_self.2 (fun x hx => by simpa using hx)
theorem new_tl (n : Nat) (iv to_ : Int) : cNew (tl n) (tl n) iv to_ = ⟨bnd iv, bnd to_, bnd to_, 0, 0, 0, false, 0, 0, 0, tl n, tl n, [], [], []⟩ := by
  rw [cNew_eq, once_id (tl_nodup n), inn_self]
theorem cut_eq {l : List Int} (hn : l.Nodup) {k : Nat} {x : Int} (h : l[k]? = some x) : (l.filter fun y => !(y == x)) = l.take k ++ l.drop (k + 1) := by
  have e : l = l.take k ++ x :: l.drop (k + 1) := by
    have := List.take_append_drop k l
    rw [← drop_at h, this]
  have hn2 := hn
  rw [e] at hn2
  obtain ⟨_, h2, h3⟩ := List.nodup_append.1 hn2
  have h4 := (List.nodup_cons.1 h2).1
  conv => lhs; rw [e]
  rw [List.filter_append, List.filter_cons]
  simp only [beq_self_eq_true, Bool.not_true, Bool.false_eq_true, if_false]
  congr 1
  · refine List.filter_eq_self.2 (fun y hy => ?_)
    have := h3 y hy x (List.mem_cons_self ..)
    simpa using this
  · refine List.filter_eq_self.2 (fun y hy => ?_)
    have : y ≠ x := fun e => h4 (e ▸ hy)
    simpa using this
theorem miss_cons {l a : List Int} (hn : l.Nodup) {k : Nat} {x : Int} (h : (miss l a)[k]? = some x) : miss l (x :: a) = (miss l a).take k ++ (miss l a).drop (k + 1) := by
  have hc := cut_eq (l := miss l a) (List.Nodup.sublist List.filter_sublist hn) h
  rw [← hc]
  unfold miss
  rw [List.filter_filter]
  refine List.filter_congr (fun y _ => ?_)
  simp only [List.contains_cons, Bool.not_or]
theorem cut_len {l : List Int} {k : Nat} (h : k < l.length) : (l.take k ++ l.drop (k + 1)).length + 1 = l.length := by
  rw [List.length_append, List.length_take, List.length_drop]
  omega
theorem fresh_miss {l a : List Int} {k : Nat} {x : Int} (h : (miss l a)[k]? = some x) : fresh l a x = true := by
  have h1 := List.mem_filter.1 (List.mem_of_getElem? h)
  unfold fresh
  rw [show l.contains x = true by simpa using h1.1, Bool.true_and]
  exact h1.2
theorem kof_same (kd : Int) (e n : Nat) (l : List Int) : kof (tellL kd e n l) kd = tellL kd e n l := List.filter_eq_self.2 (fun m hm => by
  unfold tellL at hm
  obtain ⟨x, _, rfl⟩ := List.mem_map.1 hm
  simp)
theorem kof_other {kd kd' : Int} (h : kd' ≠ kd) (e n : Nat) (l : List Int) : kof (tellL kd' e n l) kd = [] := List.filter_eq_nil_iff.2 (fun m hm => by
  unfold tellL at hm
  obtain ⟨x, _, rfl⟩ := List.mem_map.1 hm
  simpa using h)
theorem kof_app (a b : List Ct) (kd : Int) : kof (a ++ b) kd = kof a kd ++ kof b kd := List.filter_append ..
def aR (N : Nat) (rd : List Int) : Cd := ⟨1, 1000, 1000, 3, 0, 0, false, 6, 0, 0, tl N, tl N, rd, [], []⟩
def aT (N : Nat) (R : List Int) (ti : Nat) (ak : List Int) (st : Bool) : Cd := ⟨1, 1000, 1000, 3, 0, 7, st, 7, ti, 1, tl N, tl N, R, ak, []⟩
def aC (N : Nat) (R : List Int) (un gr ti be : Nat) (ak dn : List Int) : Cd := ⟨1, 1000, 1000, 3, 7, un, false, gr, ti, be, tl N, tl N, R, ak, dn⟩
section
variable {N : Nat} {R rd ak dn : List Int} {ti : Nat}
theorem a_beg : cBegS (cNew (tl N) (tl N) 1 1000) 3 0 6 = aR N [] := by rw [new_tl]; rfl
theorem a_begO : cBegO (cNew (tl N) (tl N) 1 1000) 3 0 6 = tellL 5 3 0 (tl N) := by
  have e : cBegO (cNew (tl N) (tl N) 1 1000) 3 0 6 = cRest (cBegS (cNew (tl N) (tl N) 1 1000) 3 0 6) := by
    unfold cBegO
    rw [if_neg (by rw [new_tl]; simp)]
  rw [e, a_beg]
  unfold cRest aR
  simp only
  rw [miss_nil2]
theorem aR_tick (h : rd.length ≠ N) : cTickS (aR N rd) = aR N rd ∧ cTickO (aR N rd) = tellL 5 3 0 (miss (tl N) rd) := by
  have h1 : (aR N rd).rd.length ≠ (aR N rd).T.length := by
    show rd.length ≠ (tl N).length
    rw [tl_len]; exact h
  constructor
  · unfold cTickS
    rw [if_neg (by show ¬ (3 = 0); decide), if_pos h1]
  · unfold cTickO
    rw [if_neg (by show ¬ (3 = 0); decide), if_pos h1]
    rfl
theorem aR_take {k : Nat} {x : Int} (h : (miss (tl N) rd)[k]? = some x) : cTakeS (aR N rd) ⟨6, 3, 0, x⟩ = aR N (x :: rd) := by
  have e : cTakeS (aR N rd) ⟨6, 3, 0, x⟩ = aR N (ansL (tl N) rd x) := rfl
  rw [e]
  unfold ansL
  rw [if_pos (fresh_miss h)]
theorem aR_full (h : rd.length = N) : cTickS (aR N rd) = aT N rd 1 [] false ∧ cTickO (aR N rd) = tellL 1 3 7 (tl N) := by
  have hf : (aR N rd).rd.length = (aR N rd).T.length := by
    show rd.length = (tl N).length
    rw [tl_len]; exact h
  have e1 : cTickS (aR N rd) = aT N rd 1 [] false := by
    rw [tickS_full (by show 3 ≠ 0; decide) hf]
    exact move_next rfl (by show 0 + 1 ≤ 0 + 1; decide)
  refine ⟨e1, ?_⟩
  rw [tickO_full (by show 3 ≠ 0; decide) hf, e1]
  unfold cComm cTrig aT
  simp only
  rw [if_pos trivial, if_neg (by decide), miss_nil2]; rfl
theorem aT_tick (hR : R.length = N) (ht : ti ≤ 100) : cTickS (aT N R ti ak false) = aT N R (ti + 1) ak false ∧ cTickO (aT N R ti ak false) = tellL 1 3 7 (miss (tl N) ak) := by
  have hf : (aT N R ti ak false).rd.length = (aT N R ti ak false).T.length := by
    show R.length = (tl N).length
    rw [tl_len]; exact hR
  have e1 : cTickS (aT N R ti ak false) = aT N R (ti + 1) ak false := by
    rw [tickS_full (by show 3 ≠ 0; decide) hf]
    exact move_stay (by show 0 < 7; decide) (.inr (by show ti + 1 < 1 + 1000; omega))
  refine ⟨e1, ?_⟩
  rw [tickO_full (by show 3 ≠ 0; decide) hf, e1]
  unfold cComm cTrig aT
  simp only
  rw [if_pos trivial, if_neg (by decide)]; rfl
theorem aT_take {k : Nat} {x : Int} (h : (miss (tl N) ak)[k]? = some x) : cTakeS (aT N R ti ak false) ⟨2, 3, 7, x⟩ = aT N R ti (x :: ak) (decide (ak.length + 1 = N)) ∧ cTakeN (aT N R ti ak false) ⟨2, 3, 7, x⟩ = if ak.length + 1 = N then 7 else 0 := by
  have hb : ansB (tl N) ak x = decide (ak.length + 1 = N) := by
    unfold ansB
    rw [fresh_miss h, Bool.true_and, tl_len, Bool.eq_iff_iff]
    simp
  have hl : ansL (tl N) ak x = x :: ak := by
    unfold ansL
    rw [if_pos (fresh_miss h)]
  constructor
  · have e : cTakeS (aT N R ti ak false) ⟨2, 3, 7, x⟩ = aT N R ti (ansL (tl N) ak x) (ansB (tl N) ak x) := by
      unfold cTakeS aT
      simp
    rw [e, hl, hb]
  · have e : cTakeN (aT N R ti ak false) ⟨2, 3, 7, x⟩ = if ansB (tl N) ak x = true then 7 else 0 := by
      unfold cTakeN aT
      simp
    rw [e, hb]
    simp
theorem aT_sto : cStoS (aT N R ti ak true) 7 true = aC N R 0 7 ti 1 ak [] ∧ cStoO (aT N R ti ak true) 7 true = tellL 3 3 7 (tl N) := by
  have e1 : cStoS (aT N R ti ak true) 7 true = aC N R 0 7 ti 1 ak [] := by
    unfold cStoS aT aC
    simp
  have e2 : cStoO (aT N R ti ak true) 7 true = cComm (cStoS (aT N R ti ak true) 7 true) := by
    unfold cStoO
    rw [if_neg (by unfold aT; simp), if_neg (by simp)]
  refine ⟨e1, ?_⟩
  rw [e2, e1]
  unfold cComm aC
  simp only
  rw [if_neg (by decide), miss_nil2]
/-- While its commits are told, j ticks done. -/
def Ac (N : Nat) (R dn : List Int) (j : Nat) (s : Cd) : Prop := ∃ un gr ti be ak, s = aC N R un gr ti be ak dn ∧ be ≤ ti ∧ ti ≤ 20 + j ∧ ((un = 0 ∧ gr = 7) ∨ (un = 8 ∧ gr = 8 ∧ ti ≤ be + j))
theorem Ac.ok {j : Nat} {s : Cd} (h : Ac N R dn j s) (hj : j ≤ 100) : s.ti < 999999999 ∧ s.be ≤ s.ti ∧ s.gr < 4611686018427387904 ∧ s.pa ≤ 1048576 := by
  obtain ⟨un, gr, ti, be, ak, rfl, h1, h2, h3⟩ := h
  refine ⟨by show ti < 999999999; omega, h1, by show gr < 4611686018427387904; omega, by show 1000 ≤ 1048576; omega⟩
theorem Ac.tick {j : Nat} {s : Cd} (h : Ac N R dn j s) (hR : R.length = N) (hj : j ≤ 100) : Ac N R dn (j + 1) (cTickS s) ∧ kof (cTickO s) 3 = tellL 3 3 7 (miss (tl N) dn) := by
  obtain ⟨un, gr, ti, be, ak, rfl, h1, h2, h3⟩ := h
  have hf : (aC N R un gr ti be ak dn).rd.length = (aC N R un gr ti be ak dn).T.length := by
    show R.length = (tl N).length
    rw [tl_len]; exact hR
  have out : ∀ s', cTickS (aC N R un gr ti be ak dn) = s' → (∃ u g t b a, s' = aC N R u g t b a dn) → kof (cTickO (aC N R un gr ti be ak dn)) 3 = tellL 3 3 7 (miss (tl N) dn) := by
    rintro s' e ⟨u, g, t, b, a, rfl⟩
    rw [tickO_full (by show 3 ≠ 0; decide) hf, e, kof_app]
    have e1 : cComm (aC N R u g t b a dn) = tellL 3 3 7 (miss (tl N) dn) := rfl
    have e2 : kof (cTrig (aC N R u g t b a dn)) 3 = [] := by
      unfold cTrig
      split
      · rfl
      · exact kof_other (by decide) _ _ _
    rw [e1, e2, kof_same, List.append_nil]
  rcases h3 with ⟨rfl, rfl⟩ | ⟨rfl, rfl, h4⟩
  · have e : cTickS (aC N R 0 7 ti be ak dn) = aC N R 8 8 (ti + 1) (ti + 1) [] dn := by
      rw [tickS_full (by show 3 ≠ 0; decide) hf]
      exact move_next rfl (by show be + 1 ≤ ti + 1; omega)
    exact ⟨⟨8, 8, ti + 1, ti + 1, [], e, Nat.le_refl _, by omega, .inr ⟨rfl, rfl, by omega⟩⟩, out _ e ⟨_, _, _, _, _, rfl⟩⟩
  · have e : cTickS (aC N R 8 8 ti be ak dn) = aC N R 8 8 (ti + 1) be ak dn := by
      rw [tickS_full (by show 3 ≠ 0; decide) hf]
      exact move_stay (by show 0 < 8; decide) (.inr (by show ti + 1 < be + 1000; omega))
    exact ⟨⟨8, 8, ti + 1, be, ak, e, by omega, by omega, .inr ⟨rfl, rfl, by omega⟩⟩, out _ e ⟨_, _, _, _, _, rfl⟩⟩
theorem Ac.take {j : Nat} {s : Cd} (h : Ac N R dn j s) {k : Nat} {x : Int} (hx : (miss (tl N) dn)[k]? = some x) : Ac N R (x :: dn) j (cTakeS s ⟨4, 3, 7, x⟩) := by
  obtain ⟨un, gr, ti, be, ak, rfl, h1, h2, h3⟩ := h
  have e : cTakeS (aC N R un gr ti be ak dn) ⟨4, 3, 7, x⟩ = aC N R un gr ti be ak (ansL (tl N) dn x) := rfl
  have hl : ansL (tl N) dn x = x :: dn := by
    unfold ansL
    rw [if_pos (fresh_miss hx)]
  exact ⟨un, gr, ti, be, ak, by rw [e, hl], h1, h2, h3⟩
end

end Go.Proofs.Ytgjjacljjlhnhaa

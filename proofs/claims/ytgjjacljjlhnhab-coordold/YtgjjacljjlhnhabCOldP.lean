/-
  CoordOld: its states; two coordinators; Controls.
-/
import Derived.Test.YtgjjacljjlhnhabCBegP
namespace Go.Proofs.Ytgjjacljjlhnhab
open Go.RowKit

/-- Behind ready n 2 50 and t ticks. -/
def tS (N t : Nat) : Cd := if t < 2 then ⟨2, 50, 50, 1, 0, 0, false, 0, t, 0, rl N, [0], (rl N).reverse, [], []⟩ else ⟨2, 50, 50, 1, 0, 1, false, 1, t, 2, rl N, [0], (rl N).reverse, [], []⟩
theorem t_start (N : Nat) : rdS N (bnd 2) (bnd 50) N = tS N 0 := rfl
theorem t_tick {N t : Nat} (h : t ≤ 40) : cTickS (tS N t) = tS N (t + 1) := by
  by_cases h0 : t = 0
  · subst h0
    have e : tS N 0 = ⟨2, 50, 50, 1, 0, 0, false, 0, 0, 0, rl N, [0], (rl N).reverse, [], []⟩ := rfl
    rw [e, tickS_full (by simp) (rev_full N)]
    exact move_wait rfl (by show 0 + 1 < 0 + 2; omega)
  · by_cases h1 : t = 1
    · subst h1
      have e : tS N 1 = ⟨2, 50, 50, 1, 0, 0, false, 0, 1, 0, rl N, [0], (rl N).reverse, [], []⟩ := rfl
      rw [e, tickS_full (by simp) (rev_full N)]
      exact move_next rfl (by show 0 + 2 ≤ 1 + 1; omega)
    · have e : tS N t = ⟨2, 50, 50, 1, 0, 1, false, 1, t, 2, rl N, [0], (rl N).reverse, [], []⟩ := if_neg (by omega)
      have e2 : tS N (t + 1) = ⟨2, 50, 50, 1, 0, 1, false, 1, t + 1, 2, rl N, [0], (rl N).reverse, [], []⟩ := if_neg (by omega)
      rw [e, e2, tickS_full (by simp) (rev_full N)]
      exact move_stay (Nat.zero_lt_one) (.inr (by show t + 1 < 2 + 50; omega))
theorem t_ok {N t : Nat} (h : t ≤ 40) : (tS N t).ti < 999999999 ∧ (tS N t).be ≤ (tS N t).ti ∧ (tS N t).gr < 4611686018427387904 ∧ (tS N t).pa ≤ 1048576 := by
  unfold tS
  split <;> simp <;> omega
theorem t_ts (N t : Nat) : (tS N t).ep = 1 ∧ (tS N t).T = rl N ∧ (tS N t).S = [0] := by
  unfold tS
  split <;> exact ⟨rfl, rfl, rfl⟩
theorem ans_out {l a : List Int} {x : Int} (h : x ∉ l) : ansL l a x = a ∧ ansB l a x = false := by
  have e : fresh l a x = false := by
    unfold fresh
    have : l.contains x = false := by simpa using h
    rw [this]; rfl
  unfold ansL ansB
  rw [e]
  exact ⟨rfl, rfl⟩
/-- A message that does nothing. -/
theorem t_old {N t : Nat} (hN : 2 ≤ N) {m : Ct} (h : m.ep ≠ 1 ∨ m.task < 0 ∨ (N : Int) ≤ m.task ∨ (m.kind = 2 ∧ m.n ≠ (tS N t).un)) : cTakeS (tS N t) m = tS N t ∧ cTakeN (tS N t) m = 0 := by
  obtain ⟨e1, e2, e3⟩ := t_ts N t
  by_cases he : m.ep = (tS N t).ep
  · have h' : m.task ∉ rl N ∨ (m.kind = 2 ∧ m.n ≠ (tS N t).un) := by
      rcases h with h | h | h | h
      · exact absurd (he.trans e1) h
      · exact .inl (fun hm => by have := rl_mem.1 hm; omega)
      · exact .inl (fun hm => by have := rl_mem.1 hm; omega)
      · exact .inr h
    rcases h' with h | ⟨h, h2⟩
    · have h0 : m.task ∉ [(0 : Int)] := fun hm => by
        rw [List.mem_singleton] at hm
        exact h (rl_mem.2 (by omega))
      have a1 : ansL (tS N t).T (tS N t).rd m.task = (tS N t).rd := by rw [e2]; exact (ans_out h).1
      have a2 : ansL (tS N t).S (tS N t).dn m.task = (tS N t).dn := by rw [e3]; exact (ans_out h0).1
      have a3 : ansL (tS N t).T (tS N t).ak m.task = (tS N t).ak := by rw [e2]; exact (ans_out h).1
      have a4 : ansB (tS N t).T (tS N t).ak m.task = false := by rw [e2]; exact (ans_out h).2
      have n0 : ¬ (m.ep ≠ (tS N t).ep) := fun h => h he
      constructor
      · unfold cTakeS
        rw [if_neg n0, a1, a2, a3, a4, Bool.or_false]
        repeat' split
        all_goals rfl
      · unfold cTakeN
        rw [if_neg n0, a4]
        simp
    · have n0 : ¬ (m.ep ≠ (tS N t).ep) := fun h => h he
      have n6 : ¬ (m.kind = 6 ∧ m.n = (tS N t).du) := fun h3 => by omega
      have n4 : ¬ (m.kind = 4 ∧ m.n = (tS N t).du) := fun h3 => by omega
      have n2 : ¬ (m.kind = 2 ∧ m.n = (tS N t).un ∧ 0 < (tS N t).un) := fun h3 => h2 h3.2.1
      constructor
      · unfold cTakeS
        rw [if_neg n0, if_neg n6, if_neg n4, if_neg n2]
      · unfold cTakeN
        rw [if_neg n0, if_neg n6, if_neg n4, if_neg (fun h3 => n2 ⟨h3.1, h3.2.1, h3.2.2.1⟩)]
  · unfold cTakeS cTakeN
    rw [if_pos he, if_pos he]
    exact ⟨rfl, rfl⟩
theorem tickO_len (s : Cd) : (cTickO s).length ≤ s.T.length + ((cTickS s).S.length + (cTickS s).T.length) := by
  unfold cTickO
  split
  · simp
  · split
    · unfold cRest
      rw [tellL_len]
      have := miss_len s.T s.rd
      omega
    · rw [List.length_append]
      have := cComm_len (cTickS s)
      have := cTrig_len (cTickS s)
      omega
theorem t_len {N t : Nat} (h : t ≤ 40) (hN : N ≤ 1000) : (cTickO (tS N t)).length ≤ 1000000 := by
  have h1 := tickO_len (tS N t)
  rw [t_tick h, (t_ts N t).2.1, (t_ts N (t + 1)).2.1, (t_ts N (t + 1)).2.2, rl_len] at h1
  simp only [List.length_cons, List.length_nil] at h1
  omega
/-- Two coordinators apart from one another. -/
structure Two (w0 w : World) (ka : Nat) (Pa : Sh) (sa : Cd) (kb : Nat) (Pb : Sh) (sb : Cd) : Prop where
  xa : CX w ka Pa sa
  xb : CX w kb Pb sb
  b : Below w0.heap.size w0 w
  fa : ∀ i, Fp Pa ka i → w0.heap.size ≤ i
  fb : ∀ i, Fp Pb kb i → w0.heap.size ≤ i
  d : ∀ i, Fp Pa ka i → ¬ Fp Pb kb i
section
variable {w0 w w' : World} {ka kb : Nat} {Pa Pb : Sh} {sa sb s' : Cd}
theorem Two.postA (h : Two w0 w ka Pa sa kb Pb sb) (c : CP w w' ka Pa s') : Two w0 w' ka Pa s' kb Pb sb :=
  ⟨c.x, h.xb.back (fun i hi => c.f.block i (h.xb.flt i hi) (fun hm => h.d i (.inl hm) hi)), h.b.trans (c.f.below h.b.size (fun i hi => h.fa i (.inl hi))), h.fa, h.fb, h.d⟩
theorem Two.postB (h : Two w0 w ka Pa sa kb Pb sb) (c : CP w w' kb Pb s') : Two w0 w' ka Pa sa kb Pb s' :=
  ⟨h.xa.back (fun i hi => c.f.block i (h.xa.flt i hi) (fun hm => h.d i hi (.inl hm))), c.x, h.b.trans (c.f.below h.b.size (fun i hi => h.fb i (.inl hi))), h.fa, h.fb, h.d⟩
theorem Two.below (h : Two w0 w ka Pa sa kb Pb sb) (hb : Below w.heap.size w w') : Two w0 w' ka Pa sa kb Pb sb :=
  ⟨h.xa.below hb, h.xb.below hb, h.b.trans (hb.mono h.b.size), h.fa, h.fb, h.d⟩
end
set_option maxHeartbeats 4000000 in
set_option maxRecDepth 100000 in
theorem hControls_any {w : World} {b1 b2 : Nat} {u1 u2 : Value} {l : List Ct} (h1 : OwnL 30 4 Ct.cs b1 w u1 l) (h2 : OwnL 30 4 Ct.cs b2 w u2 l) (hl : l.length ≤ 1000000) :
    Calls Try.prog 10 #[u1, u2] w fun e w' => e = .returned (.bool true) ∧ Below w.heap.size w w' := by
  obtain ⟨g1, c1, rfl⟩ := h1.shape
  obtain ⟨g2, c2, rfl⟩ := h2.shape
  have H1 := hide h1
  have H2 := hide h2
  clear h1 h2
  go_enter Try.func10, Try.ntmps10
  go_wp2_with fail
  go_loopg [5] (l.length + 1) (fun gh iv wr => ∃ i : Nat, iv = .int .i64 (i : Int) ∧ i ≤ l.length ∧ l.length + 1 ≤ gh + i ∧ Hid (Below w.heap.size w wr))
  case atStart => exact ⟨0, rfl, by omega, by omega, Below.refl _ _⟩
  case round =>
    obtain ⟨i, rfl, hi, hg, HB⟩ := hrel
    obtain ⟨go, rfl⟩ : ∃ go, gk = go + 1 := ⟨gk - 1, by omega⟩
    by_cases hlt : i < l.length
    · have bt : (i : Int) < (l.length : Int) := by omega
      obtain ⟨m, hm⟩ := get_of_lt hlt
      obtain ⟨g, cc, e, x0, x1, x2, x3⟩ := Ct.read (H1.out.below HB.out) hm
      cases e
      obtain ⟨g', cc', e, y0, y1, y2, y3⟩ := Ct.read (H2.out.below HB.out) hm
      cases e
      clear hm
      go_wp2_with fail
      go_quiet (fail)
      go_wp2_with fail
      go_roundg go
      case rel => exact ⟨i + 1, by go_num, by omega, by omega, below_drewN HB.out _⟩
      case measure => omega
    · obtain rfl : i = l.length := by omega
      have bt : ¬ ((l.length : Nat) : Int) < (l.length : Int) := by omega
      go_wp2_with fail
      go_ret
      exact ⟨rfl, HB.out⟩

end Go.Proofs.Ytgjjacljjlhnhab

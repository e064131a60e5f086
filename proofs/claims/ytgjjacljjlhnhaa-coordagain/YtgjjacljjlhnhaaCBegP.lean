/-
  CoordBegins: its states.
-/
import Derived.Test.YtgjjacljjlhnhaaCReady
namespace Go.Proofs.Ytgjjacljjlhnhaa
open Go.RowKit

theorem move_stay {s : Cd} (hu : 0 < s.un) (h : s.st = true ∨ s.ti < s.be + s.pa) : cMove s = s := by
  have e1 : cGive s = s := by
    unfold cGive
    refine if_neg (fun h1 => ?_)
    rcases h with h | h
    · rw [h1.2.1] at h; cases h
    · omega
  unfold cMove
  rw [e1, if_neg (fun h1 => by omega)]
theorem give_none {s : Cd} (hu : s.un = 0) : cGive s = s := if_neg (fun h1 => by omega)
theorem move_next {s : Cd} (hu : s.un = 0) (hi : s.be + s.iv ≤ s.ti) : cMove s = cNext s := by
  unfold cMove
  rw [give_none hu, if_pos ⟨hu, hi⟩]
theorem move_wait {s : Cd} (hu : s.un = 0) (hi : s.ti < s.be + s.iv) : cMove s = s := by
  unfold cMove
  rw [give_none hu, if_neg (fun h1 => by omega)]
theorem move_give {s : Cd} (hu : 0 < s.un) (hs : s.st = false) (h : s.be + s.pa ≤ s.ti) : cMove s = if s.be + s.iv ≤ s.ti then cNext { s with un := 0, pa := min (2 * s.pa) 1048576 } else { s with un := 0, pa := min (2 * s.pa) 1048576 } := by
  have e1 : cGive s = { s with un := 0, pa := min (2 * s.pa) 1048576 } := if_pos ⟨hu, hs, h⟩
  unfold cMove
  rw [e1]
  simp
/-- After i ticks behind ready n 1 500. -/
def bgS (n i : Nat) : Cd := if i = 0 then rdS n 1 500 n else ⟨1, 500, 500, 1, 0, 1, false, 1, i, 1, rl n, [0], (rl n).reverse, [], []⟩
theorem tickS_full {s : Cd} (he : s.ep ≠ 0) (hf : s.rd.length = s.T.length) : cTickS s = cMove { s with ti := s.ti + 1 } := by
  unfold cTickS
  rw [if_neg he, if_neg (by simpa using hf)]
theorem tickO_full {s : Cd} (he : s.ep ≠ 0) (hf : s.rd.length = s.T.length) : cTickO s = cComm (cTickS s) ++ cTrig (cTickS s) := by
  unfold cTickO
  rw [if_neg he, if_neg (by simpa using hf)]
theorem rev_full (n : Nat) : (rl n).reverse.length = (rl n).length := List.length_reverse
theorem bg_tick {n i : Nat} (h : i ≤ 100) : cTickS (bgS n i) = bgS n (i + 1) := by
  by_cases h0 : i = 0
  · subst h0
    have e : bgS n 0 = rdS n 1 500 n := rfl
    rw [e, tickS_full (by unfold rdS; simp) (rev_full n)]
    rfl
  · have e : bgS n i = ⟨1, 500, 500, 1, 0, 1, false, 1, i, 1, rl n, [0], (rl n).reverse, [], []⟩ := if_neg h0
    have e2 : bgS n (i + 1) = ⟨1, 500, 500, 1, 0, 1, false, 1, i + 1, 1, rl n, [0], (rl n).reverse, [], []⟩ := if_neg (by omega)
    rw [e, e2, tickS_full (by simp) (rev_full n)]
    exact move_stay (Nat.zero_lt_one) (.inr (by show i + 1 < 1 + 500; omega))
theorem bg_ok {n i : Nat} (h : i ≤ 100) : (bgS n i).ti < 999999999 ∧ (bgS n i).be ≤ (bgS n i).ti ∧ (bgS n i).gr < 4611686018427387904 ∧ (bgS n i).pa ≤ 1048576 := by
  unfold bgS rdS
  split <;> simp <;> omega
/-- The epoch 4, i tasks ready. -/
def b4S (n F i : Nat) : Cd := ⟨1, 500, 500, 4, F, 0, false, F + 2, 0, 0, rl n, [0], (rl i).reverse, [], []⟩
theorem b4_old {n i F : Nat} : cBegS (bgS n i) 1 F F = bgS n i := by
  unfold cBegS bgS rdS
  split <;> rfl
theorem b4_oldO {n i F : Nat} : cBegO (bgS n i) 1 F F = [] := by
  unfold cBegO bgS rdS
  split <;> rfl
theorem b4_new {n i F : Nat} (h : 1 ≤ F) : cBegS (bgS n i) 4 F (F + 2) = b4S n F 0 := by
  unfold cBegS bgS rdS b4S
  split
  · simp only [show ¬ 4 ≤ 1 by decide, if_false]
    congr 1
    omega
  · simp only [show ¬ 4 ≤ 1 by decide, if_false]
    congr 1
    omega
theorem b4_newO {n i F : Nat} (h : 1 ≤ F) : cBegO (bgS n i) 4 F (F + 2) = tellL 5 4 F (rl n) := by
  have e : cBegO (bgS n i) 4 F (F + 2) = cRest (cBegS (bgS n i) 4 F (F + 2)) := by
    unfold cBegO
    rw [if_neg (by unfold bgS rdS; split <;> simp)]
  rw [e, b4_new h]
  unfold cRest b4S
  simp only
  rw [show (rl 0).reverse = [] from rfl, miss_nil2]
theorem b4_set {n F : Nat} (h : 1 ≤ n) : cSet (b4S n F 0) = false := by
  unfold cSet b4S
  simp only
  rw [show (rl 0).reverse.length = 0 from rfl, rl_len]
  have : (0 == n) = false := by simp; omega
  rw [this]; rfl
theorem b4_take {n F i : Nat} (h : i < n) : cTakeS (b4S n F i) ⟨6, 4, F, (i : Int)⟩ = b4S n F (i + 1) := by
  have e : cTakeS (b4S n F i) ⟨6, 4, F, (i : Int)⟩ = { b4S n F i with rd := ansL (rl n) (rl i).reverse (i : Int) } := by
    unfold cTakeS b4S
    simp
  rw [e, ans_rl h]; rfl
/-- Behind its first tick, dn done. -/
def b5S (n F : Nat) (t : Nat) (dn : List Int) : Cd := ⟨1, 500, 500, 4, F, F + 3, false, F + 3, t, 1, rl n, [0], (rl n).reverse, [], dn⟩
theorem b5_tick {n F : Nat} : cTickS (b4S n F n) = b5S n F 1 [] := by
  rw [tickS_full (by unfold b4S; simp) (rev_full n)]
  unfold cMove cGive b4S b5S cNext
  simp
theorem b5_tickO {n F : Nat} (h : 1 ≤ F) : cTickO (b4S n F n) = ⟨3, 4, F, 0⟩ :: tellL 1 4 (F + 3) (rl n) := by
  rw [tickO_full (by unfold b4S; simp) (rev_full n), b5_tick]
  unfold cComm cTrig b5S
  simp only
  rw [if_neg (by omega), if_neg (by omega), miss_nil2, miss_nil2]; rfl
theorem b5_take {n F : Nat} : cTakeS (b5S n F 1 []) ⟨4, 4, F, 0⟩ = b5S n F 1 [0] := by
  unfold cTakeS b5S
  simp
  rfl
theorem b6_tick {n F : Nat} : cTickS (b5S n F 1 [0]) = b5S n F 2 [0] := by
  rw [tickS_full (by unfold b5S; simp) (rev_full n)]
  unfold cMove cGive b5S
  simp
theorem b6_tickO {n F : Nat} (h : 1 ≤ F) : cTickO (b5S n F 1 [0]) = tellL 1 4 (F + 3) (rl n) := by
  rw [tickO_full (by unfold b5S; simp) (rev_full n), b6_tick]
  unfold cComm cTrig b5S
  simp only
  rw [if_neg (by omega), if_neg (by omega), miss_nil2]; rfl
theorem tell_get {k : Int} {e m n i : Nat} (h : i < n) : (tellL k e m (rl n))[i]? = some ⟨k, e, m, (i : Int)⟩ := by
  unfold tellL
  rw [List.getElem?_map, rl_get h]; rfl
theorem KX.slc {w0 w : World} {k : Nat} {P : Sh} {s : Cd} {L : List (Value × List Ct)} (h : KX w0 w k P s L) {u : Value} {l : List Ct} (hp : (u, l) ∈ L) (h1 : 1 ≤ l.length) : ∃ g cap, u = .slice (some ⟨g, 0, none⟩) l.length cap := by
  obtain ⟨m, hm⟩ := get_of_lt h1
  obtain ⟨g, cap, e, _⟩ := h.read hp hm
  exact ⟨g, cap, e⟩
theorem KX.cell {w0 w : World} {k : Nat} {P : Sh} {s : Cd} {L : List (Value × List Ct)} (h : KX w0 w k P s L) {g n cap : Nat} {l : List Ct} (hp : (Value.slice (some ⟨g, 0, none⟩) n cap, l) ∈ L) {i : Nat} {m : Ct} (hi : l[i]? = some m) : w.cell? ⟨g, i * 4, none⟩ = some (.int .i64 m.kind) ∧ w.cell? ⟨g, i * 4 + 1, none⟩ = some (.int .u64 (m.ep : Int)) ∧ w.cell? ⟨g, i * 4 + 2, none⟩ = some (.int .u64 (m.n : Int)) ∧ w.cell? ⟨g, i * 4 + 3, none⟩ = some (.int .i64 m.task) := by
  obtain ⟨g', cap', e, h2⟩ := h.read hp hi
  cases e
  exact h2
theorem KX.shp {w0 w : World} {k : Nat} {P : Sh} {s : Cd} {L : List (Value × List Ct)} (h : KX w0 w k P s L) {u : Value} {l : List Ct} (hp : (u, l) ∈ L) : ∃ a c, u = .slice a l.length c := (h.r _ hp).shape
theorem tell_rl_len (k : Int) (e m n : Nat) : (tellL k e m (rl n)).length = n := by rw [tellL_len, rl_len]

end Go.Proofs.Ytgjjacljjlhnhaa

/-
  container/heap's up, down, Push, Pop over such a heap.
-/
import Derived.Test.YtfiafbfbiidnlaaJHeap
import Derived.WalkSmall
namespace Go.Proofs.Ytfiafbfbiidnlaa
open Go.RowKit

set_option maxHeartbeats 1000000 in
set_option maxRecDepth 100000 in
theorem mpop_any {base : Nat} {w : World} {K : Nat} {c0 c1 c2 c3 rv : Value} {l : List Nat} {x : Nat} (h : Hp base w K c0 c1 c2 c3 rv (l ++ [x])) (hl : l.length ≤ 1000) :
    Calls Try.prog 98 #[.pointer (some ⟨K, 4, none⟩)] w fun e w' => e = .returned (.iface 3 (.int .i64 (x : Int))) ∧ ∃ rv', Hp base w' K c0 c1 c2 c3 rv' l ∧ HT K rv rv' w w' := by
  obtain ⟨-, -, -, -, k4⟩ := h.box.cells5
  have k5 := h.box.free 4
  obtain ⟨g, cap, cur, rfl, h2, h3, h4, h5, h6, h7⟩ := OwnN.row h.own (by simp)
  have hx : w.cell? ⟨g, l.length, none⟩ = some (.int .i64 (x : Int)) := by rw [h3.cellAt]; exact h7 l.length x (by simp)
  have H := hide h
  have H3 := hide h3
  have H7 := hide h7
  simp only [List.length_append, List.length_cons, List.length_nil] at k4 h4 ⊢
  clear h h3 h7
  go_enter Try.func98, Try.ntmps98
  go_wp2
  go_ret
  refine ⟨rfl, _, ⟨by simpa using H.out.box.set 4 _, (OwnN.mk h2 H3.out (by omega) h5 h6 (fun i y hy => H7.out i y (by rw [List.getElem?_append_left (List.getElem?_eq_some_iff.1 hy).1]; exact hy))).setK (fun q e => H.out.apart q (by simpa [Value.ownBlock] using e))⟩, ?_⟩
  refine ⟨rfl, rfl, rfl, by simp, fun i _ h1 _ => Below.heap_setCell w ⟨K, 4, none⟩ _ i h1, fun q e => .inl (by simpa [Value.ownBlock] using e)⟩

theorem load_cell (W : World) (K : Nat) (rv : Value) (h : W.cell? ⟨K, 4, none⟩ = some rv) : (loadVar 88 ⟨K, 4, none⟩).run Try.prog W = .ok rv W := by
  have h1 : (isAgg 88).run Try.prog W = .ok false W := by kernel_rfl
  unfold loadVar
  simp [h1, go_sem, h]
theorem wrap_chk (W : World) (a : Addr) (s t : String) : (Builtin.ssaWrapNilChk_ #[99] 99 #[.pointer (some a), strVal s, strVal t]).run Try.prog W = .ok (.pointer (some a)) W := by
  kernel_rfl
theorem meth_val {name : String} {f : FuncId} (hf : ((Try.prog.info? 99).bind fun i => (i.methods.find? (·.name == name))).map (fun m => (m.path, m.func)) = some (#[], some (f, false)))
    (W : World) (K : Nat) (rv : Value) (h : W.cell? ⟨K, 4, none⟩ = some rv) : (method 232 99 (.pointer (some ⟨K, 4, none⟩)) name).run Try.prog W = .ok (f, rv) W := by
  obtain ⟨m, hm, hp⟩ := Option.map_eq_some_iff.1 hf
  obtain ⟨i, hi, hm⟩ := Option.bind_eq_some_iff.1 hm
  have h1 : (typeInfo 99).run Try.prog W = .ok i W := by unfold typeInfo; simp [go_sem, hi]
  have hu : (underlying 99).run Try.prog W = .ok (.pointer 88) W := by kernel_rfl
  simp only [Prod.mk.injEq] at hp
  have hc := wrap_chk W ⟨K, 4, none⟩
  unfold method
  simp [go_sem, h1, hm, hp.1, hp.2, follow, receiverAt, hu, Place.get, hc, h, asAddr]
theorem meth_less (W : World) (K : Nat) (rv : Value) (h : W.cell? ⟨K, 4, none⟩ = some rv) : (method 232 99 (.pointer (some ⟨K, 4, none⟩)) "Less").run Try.prog W = .ok (96, rv) W := meth_val (by kernel_rfl) W K rv h
theorem meth_len (W : World) (K : Nat) (rv : Value) (h : W.cell? ⟨K, 4, none⟩ = some rv) : (method 232 99 (.pointer (some ⟨K, 4, none⟩)) "Len").run Try.prog W = .ok (95, rv) W := meth_val (by kernel_rfl) W K rv h
theorem meth_swap (W : World) (K : Nat) (rv : Value) (h : W.cell? ⟨K, 4, none⟩ = some rv) : (method 232 99 (.pointer (some ⟨K, 4, none⟩)) "Swap").run Try.prog W = .ok (97, rv) W := meth_val (by kernel_rfl) W K rv h
theorem meth_push (W : World) (K : Nat) : (method 232 99 (.pointer (some ⟨K, 4, none⟩)) "Push").run Try.prog W = .ok (99, .pointer (some ⟨K, 4, none⟩)) W := by kernel_rfl
theorem meth_pop (W : World) (K : Nat) : (method 232 99 (.pointer (some ⟨K, 4, none⟩)) "Pop").run Try.prog W = .ok (98, .pointer (some ⟨K, 4, none⟩)) W := by kernel_rfl

def upP : Nat → List Nat → Nat → List Nat
  | 0, l, _ => l
  | f + 1, l, j => if (j - 1) / 2 = j ∨ ¬ l.getD j 0 < l.getD ((j - 1) / 2) 0 then l else upP f (swp l ((j - 1) / 2) j) ((j - 1) / 2)
theorem upP_stop {f j : Nat} {l : List Nat} (h : (j - 1) / 2 = j ∨ ¬ l.getD j 0 < l.getD ((j - 1) / 2) 0) : upP (f + 1) l j = l := if_pos h
theorem upP_go {f j : Nat} {l : List Nat} (h : ¬ ((j - 1) / 2 = j ∨ ¬ l.getD j 0 < l.getD ((j - 1) / 2) 0)) : upP (f + 1) l j = upP f (swp l ((j - 1) / 2) j) ((j - 1) / 2) := if_neg h
theorem Hp.drewN {base : Nat} {w : World} {K : Nat} {c0 c1 c2 c3 rv : Value} {l : List Nat} (h : Hp base w K c0 c1 c2 c3 rv l) (n : Nat) : Hp base (w.drewN n) K c0 c1 c2 c3 rv l :=
  ⟨h.box, h.own⟩
theorem Hp.swapped {base : Nat} {w w' : World} {K : Nat} {c0 c1 c2 c3 rv : Value} {l l' : List Nat} (h : Hp base w K c0 c1 c2 c3 rv l) (ho : OwnN base w' rv l') (hg : w.grownBy w' rv.ownBlock) : Hp base w' K c0 c1 c2 c3 rv l' :=
  ⟨h.box.grownO hg (fun e => h.apart K e.symm rfl), ho⟩

set_option maxHeartbeats 1000000 in
set_option maxRecDepth 100000 in
theorem up_any {base : Nat} {w : World} {K : Nat} {c0 c1 c2 c3 rv : Value} {l : List Nat} (h : Hp base w K c0 c1 c2 c3 rv l) {j : Nat} (hj : j < l.length) (hl : l.length ≤ 1000) :
    Calls Try.prog 77 #[.iface 99 (.pointer (some ⟨K, 4, none⟩)), .int .i64 (j : Int)] w fun e w' => e = .returned (.tuple #[]) ∧ Hp base w' K c0 c1 c2 c3 rv (upP (j + 1) l j) ∧ HT K rv rv w w' := by
  go_enter Try.func77, Try.ntmps77
  go_wp2_with fail
  go_loopg [1] (j + 1) (fun g jv wr => ∃ (j' : Nat) (l' : List Nat), jv = .int .i64 (j' : Int) ∧ j' + 1 ≤ g ∧ j' < l'.length ∧ l'.length ≤ 1000 ∧ Hid (upP (j + 1) l j = upP g l' j') ∧ Hid (Hp base wr K c0 c1 c2 c3 rv l') ∧ Hid (HT K rv rv w wr))
  case atStart => exact ⟨j, l, rfl, by omega, hj, hl, rfl, h, HT.refl _ _ _⟩
  case round =>
    obtain ⟨j', l', rfl, g1, g2, g3, GE, GH, GT⟩ := hrel
    have k4 := GH.out.box.cells5.2.2.2.2
    have ml := meth_less wr K rv k4
    obtain ⟨g, rfl⟩ : ∃ g, gk = g + 1 := ⟨gk - 1, by omega⟩
    by_cases c : (j' - 1) / 2 = j'
    · have GE2 : Hid (upP (j + 1) l j = l') := GE.out.trans (upP_stop (.inl c))
      have c0 : j' = 0 := by omega
      subst c0
      clear GE c ml
      go_wp2_with fail
      go_end0
      exact ⟨rfl, by rw [GE2.out]; exact GH.out, GT.out⟩
    · have c1 : (j' - 1) / 2 < j' := by omega
      obtain ⟨i, hi⟩ : ∃ i, (j' - 1) / 2 = i := ⟨_, rfl⟩
      rw [hi] at c1
      have hi2 : ((j' : Int) - 1) / 2 = (i : Int) := by omega
      have hne : ((i : Int) == (j' : Int)) = false := by simp; omega
      obtain ⟨x, hx⟩ : ∃ x, l'[j']? = some x := ⟨_, List.getElem?_eq_getElem g2⟩
      obtain ⟨y, hy⟩ : ∃ y, l'[i]? = some y := ⟨_, List.getElem?_eq_getElem (by omega)⟩
      have HL := hide (less_any GH.out.own hx hy)
      have hx' : l'.getD j' 0 = x := by rw [List.getD_eq_getElem?_getD, hx]; rfl
      have hy' : l'.getD i 0 = y := by rw [List.getD_eq_getElem?_getD, hy]; rfl
      by_cases hlt : x < y
      · have GE2 : Hid (upP (j + 1) l j = upP g (swp l' i j') i) := by
          have := GE.out.trans (upP_go (by rw [hi, hx', hy']; omega))
          rw [hi] at this
          exact this
        have hd : decide (x < y) = true := by simp [hlt]
        rw [hd] at HL
        clear hi hx hy c GE hx' hy' hlt hd
        go_wp2_with (first
          | (go_at_call 96; refine HL.out.mono ?_; rintro e w1 ⟨rfl, n1, rfl⟩; have ms := meth_swap (wr.drewN n1) K rv k4; have HS := hide (swap_any (GH.out.drewN n1).own (show i < l'.length by omega) g2))
          | (go_at_call 97; refine HS.out.mono ?_; rintro e w2 ⟨rfl, o2, g2'⟩; have GH2 := hide ((GH.out.drewN n1).swapped o2 g2'); have GT2 := hide ((GT.out.trans (HT.below (below_drewN (Below.refl _ _) n1))).trans (HT.grown g2' (fun _ e => .inl e))); clear o2 g2'))
        go_roundg g
        case rel => exact ⟨i, swp l' i j', rfl, by omega, by rw [swp_len]; omega, by rw [swp_len]; omega, GE2, GH2, GT2⟩
        case measure => omega
      · have GE2 : Hid (upP (j + 1) l j = l') := GE.out.trans (upP_stop (by rw [hi, hx', hy']; exact .inr hlt))
        have hd : decide (x < y) = false := by simp [hlt]
        rw [hd] at HL
        clear hi hx hy c GE hx' hy' hlt hd
        go_wp2_with (go_at_call 96; refine HL.out.mono ?_; rintro e w1 ⟨rfl, n1, rfl⟩)
        go_end0
        exact ⟨rfl, by rw [GE2.out]; exact GH.out.drewN n1, GT.out.trans (HT.below (below_drewN (Below.refl _ _) n1))⟩

def dnP : Nat → List Nat → Nat → Nat → List Nat
  | 0, l, _, _ => l
  | f + 1, l, i, n => if n ≤ 2 * i + 1 then l else if ¬ l.getD (if 2 * i + 2 < n ∧ l.getD (2 * i + 2) 0 < l.getD (2 * i + 1) 0 then 2 * i + 2 else 2 * i + 1) 0 < l.getD i 0 then l
    else dnP f (swp l i (if 2 * i + 2 < n ∧ l.getD (2 * i + 2) 0 < l.getD (2 * i + 1) 0 then 2 * i + 2 else 2 * i + 1)) (if 2 * i + 2 < n ∧ l.getD (2 * i + 2) 0 < l.getD (2 * i + 1) 0 then 2 * i + 2 else 2 * i + 1) n
theorem dnP_end {f i n : Nat} {l : List Nat} (h : n ≤ 2 * i + 1) : dnP (f + 1) l i n = l := if_pos h
theorem dnP_stop {f i n k : Nat} {l : List Nat} (h : ¬ n ≤ 2 * i + 1) (hk : (if 2 * i + 2 < n ∧ l.getD (2 * i + 2) 0 < l.getD (2 * i + 1) 0 then 2 * i + 2 else 2 * i + 1) = k) (hl : ¬ l.getD k 0 < l.getD i 0) : dnP (f + 1) l i n = l := by
  rw [dnP, if_neg h, hk, if_pos hl]
theorem dnP_go {f i n k : Nat} {l : List Nat} (h : ¬ n ≤ 2 * i + 1) (hk : (if 2 * i + 2 < n ∧ l.getD (2 * i + 2) 0 < l.getD (2 * i + 1) 0 then 2 * i + 2 else 2 * i + 1) = k) (hl : l.getD k 0 < l.getD i 0) : dnP (f + 1) l i n = dnP f (swp l i k) k n := by
  rw [dnP, if_neg h, hk, if_neg (by omega)]

theorem less_drew {base : Nat} {w : World} {m : Nat} {v : Value} {l : List Nat} (h : OwnN base (w.drewN m) v l) {i j : Nat} {x y : Nat} (hx : l[i]? = some x) (hy : l[j]? = some y) :
    Calls Try.prog 96 #[v, .int .i64 (i : Int), .int .i64 (j : Int)] (w.drewN m) fun e w' => e = .returned (.bool (decide (x < y))) ∧ ∃ n, w' = w.drewN n := by
  refine (less_any h hx hy).mono ?_
  rintro e w' ⟨h1, n, rfl⟩
  exact ⟨h1, m + n, by simp⟩
set_option maxHeartbeats 1000000 in
set_option maxRecDepth 100000 in
theorem down_any {base : Nat} {w : World} {K : Nat} {c0 c1 c2 c3 rv : Value} {l : List Nat} (h : Hp base w K c0 c1 c2 c3 rv l) {n : Nat} (hn : n < l.length) (hl : l.length ≤ 1000) :
    Calls Try.prog 75 #[.iface 99 (.pointer (some ⟨K, 4, none⟩)), .int .i64 0, .int .i64 (n : Int)] w fun e w' => (∃ b, e = .returned (.bool b)) ∧ Hp base w' K c0 c1 c2 c3 rv (dnP (n + 1) l 0 n) ∧ HT K rv rv w w' := by
  go_enter Try.func75, Try.ntmps75
  go_wp2_with fail
  go_loopg [7] (n + 1) (fun g iv wr => ∃ (i : Nat) (l' : List Nat), iv = .int .i64 (i : Int) ∧ n + 1 ≤ g + i ∧ i ≤ n ∧ l'.length = l.length ∧ Hid (dnP (n + 1) l 0 n = dnP g l' i n) ∧ Hid (Hp base wr K c0 c1 c2 c3 rv l') ∧ Hid (HT K rv rv w wr))
  case atStart => exact ⟨0, l, rfl, by omega, by omega, rfl, rfl, h, HT.refl _ _ _⟩
  case round =>
    obtain ⟨i, l', rfl, g1, g2, g3, GE, GH, GT⟩ := hrel
    have k4 := GH.out.box.cells5.2.2.2.2
    obtain ⟨g, rfl⟩ : ∃ g, gk = g + 1 := ⟨gk - 1, by omega⟩
    have G3 := hide g3
    have hll : l'.length ≤ 1000 := by omega
    have hln : n < l'.length := by omega
    clear g3
    by_cases c : n ≤ 2 * i + 1
    · have GE2 : Hid (dnP (n + 1) l 0 n = l') := GE.out.trans (dnP_end c)
      have c1 : (n : Int) ≤ 2 * (i : Int) + 1 := by omega
      clear GE
      go_wp2_with fail
      go_ret
      exact ⟨⟨_, rfl⟩, by rw [GE2.out]; exact GH.out, GT.out⟩
    · have c1 : ¬ (n : Int) ≤ 2 * (i : Int) + 1 := by omega
      obtain ⟨x, hx⟩ : ∃ x, l'[i]? = some x := ⟨_, List.getElem?_eq_getElem (by omega)⟩
      obtain ⟨y, hy⟩ : ∃ y, l'[2 * i + 1]? = some y := ⟨_, List.getElem?_eq_getElem (by omega)⟩
      have hx' : l'.getD i 0 = x := by rw [List.getD_eq_getElem?_getD, hx]; rfl
      have hy' : l'.getD (2 * i + 1) 0 = y := by rw [List.getD_eq_getElem?_getD, hy]; rfl
      have HL1 : Hid (∀ m, Calls Try.prog 96 #[rv, .int .i64 (2 * (i : Int) + 1), .int .i64 (i : Int)] (wr.drewN m) fun e w' => e = .returned (.bool (decide (y < x))) ∧ ∃ n, w' = wr.drewN n) := fun m => by
        have := less_drew (GH.out.drewN m).own hy hx
        rwa [show (((2 * i + 1 : Nat) : Int)) = 2 * (i : Int) + 1 from by omega] at this
      have ml : ∀ m, (method 232 99 (.pointer (some ⟨K, 4, none⟩)) "Less").run Try.prog (wr.drewN m) = .ok (96, rv) (wr.drewN m) := fun m => meth_less (wr.drewN m) K rv k4
      have ms : ∀ m, (method 232 99 (.pointer (some ⟨K, 4, none⟩)) "Swap").run Try.prog (wr.drewN m) = .ok (97, rv) (wr.drewN m) := fun m => meth_swap (wr.drewN m) K rv k4
      have ml0 := meth_less wr K rv k4
      by_cases d : 2 * i + 2 < n
      · obtain ⟨z, hz⟩ : ∃ z, l'[2 * i + 2]? = some z := ⟨_, List.getElem?_eq_getElem (by omega)⟩
        have hz' : l'.getD (2 * i + 2) 0 = z := by rw [List.getD_eq_getElem?_getD, hz]; rfl
        have d1 : 2 * (i : Int) + 1 + 1 < (n : Int) := by omega
        have HL0 := hide (less_any GH.out.own hz hy)
        rw [show (((2 * i + 2 : Nat) : Int)) = 2 * (i : Int) + 1 + 1 from by omega, show (((2 * i + 1 : Nat) : Int)) = 2 * (i : Int) + 1 from by omega] at HL0
        have HL2 : Hid (∀ m, Calls Try.prog 96 #[rv, .int .i64 (2 * (i : Int) + 1 + 1), .int .i64 (i : Int)] (wr.drewN m) fun e w' => e = .returned (.bool (decide (z < x))) ∧ ∃ n, w' = wr.drewN n) := fun m => by
          have := less_drew (GH.out.drewN m).own hz hx
          rwa [show (((2 * i + 2 : Nat) : Int)) = 2 * (i : Int) + 1 + 1 from by omega] at this
        by_cases f : z < y
        · have hk : (if 2 * i + 2 < n ∧ l'.getD (2 * i + 2) 0 < l'.getD (2 * i + 1) 0 then 2 * i + 2 else 2 * i + 1) = 2 * i + 2 := if_pos ⟨d, by rw [hz', hy']; exact f⟩
          have hf : decide (z < y) = true := by simp [f]
          rw [hf] at HL0
          clear hf f HL1
          have HSW : Hid (∀ m, Calls Try.prog 97 #[rv, .int .i64 (i : Int), .int .i64 (2 * (i : Int) + 1 + 1)] (wr.drewN m) fun e w' => e = .returned (.tuple #[]) ∧ OwnN base w' rv (swp l' i (2 * i + 2)) ∧ (wr.drewN m).grownBy w' rv.ownBlock) := fun m => by
            have := swap_any (GH.out.drewN m).own (show i < l'.length by omega) (show 2 * i + 2 < l'.length by omega)
            rwa [show (((2 * i + 2 : Nat) : Int)) = 2 * (i : Int) + 1 + 1 from by omega] at this
          by_cases e : z < x
          · have GE2 : Hid (dnP (n + 1) l 0 n = dnP g (swp l' i (2 * i + 2)) (2 * i + 2) n) := GE.out.trans (dnP_go c hk (by rw [hz', hx']; exact e))
            have he : decide (z < x) = true := by simp [e]
            rw [he] at HL2
            have G2 := hide g2
            clear hk hx hy hx' hy' GE e he hz hz' 
            go_wp2_with (first
              | (go_at_call 96; refine HL0.out.mono ?_; rintro e w0 ⟨rfl, n0, rfl⟩; clear HL0 ml0)
              | (go_at_call 96; refine (HL2.out n0).mono ?_; rintro e w1 ⟨rfl, n1, rfl⟩)
              | (go_at_call 97; refine (HSW.out n1).mono ?_; rintro e w2 ⟨rfl, o2, g2'⟩; have GH2 := hide ((GH.out.drewN n1).swapped o2 g2'); have GT2 := hide ((GT.out.trans (HT.below (below_drewN (Below.refl _ _) n1))).trans (HT.grown g2' (fun _ e => .inl e))); clear o2 g2'))
            go_roundg g
            case rel => exact ⟨2 * i + 2, swp l' i (2 * i + 2), by go_num, by omega, by omega, by rw [swp_len]; exact G3.out, GE2, GH2, GT2⟩
            case measure => omega
          · have GE2 : Hid (dnP (n + 1) l 0 n = l') := GE.out.trans (dnP_stop c hk (by rw [hz', hx']; exact e))
            have he : decide (z < x) = false := by simp [e]
            rw [he] at HL2
            have G2 := hide g2
            clear hk hx hy hx' hy' GE e he hz hz' 
            go_wp2_with (first
              | (go_at_call 96; refine HL0.out.mono ?_; rintro e w0 ⟨rfl, n0, rfl⟩; clear HL0 ml0)
              | (go_at_call 96; refine (HL2.out n0).mono ?_; rintro e w1 ⟨rfl, n1, rfl⟩))
            go_ret
            exact ⟨⟨_, rfl⟩, by rw [GE2.out]; exact GH.out.drewN n1, GT.out.trans (HT.below (below_drewN (Below.refl _ _) n1))⟩
        · have hk : (if 2 * i + 2 < n ∧ l'.getD (2 * i + 2) 0 < l'.getD (2 * i + 1) 0 then 2 * i + 2 else 2 * i + 1) = 2 * i + 1 := if_neg (by rw [hz', hy']; omega)
          have hf : decide (z < y) = false := by simp [f]
          rw [hf] at HL0
          clear hf f HL2
          have HSW : Hid (∀ m, Calls Try.prog 97 #[rv, .int .i64 (i : Int), .int .i64 (2 * (i : Int) + 1)] (wr.drewN m) fun e w' => e = .returned (.tuple #[]) ∧ OwnN base w' rv (swp l' i (2 * i + 1)) ∧ (wr.drewN m).grownBy w' rv.ownBlock) := fun m => by
            have := swap_any (GH.out.drewN m).own (show i < l'.length by omega) (show 2 * i + 1 < l'.length by omega)
            rwa [show (((2 * i + 1 : Nat) : Int)) = 2 * (i : Int) + 1 from by omega] at this
          by_cases e : y < x
          · have GE2 : Hid (dnP (n + 1) l 0 n = dnP g (swp l' i (2 * i + 1)) (2 * i + 1) n) := GE.out.trans (dnP_go c hk (by rw [hy', hx']; exact e))
            have he : decide (y < x) = true := by simp [e]
            rw [he] at HL1
            have G2 := hide g2
            clear hk hx hy hx' hy' GE e he hz hz' 
            go_wp2_with (first
              | (go_at_call 96; refine HL0.out.mono ?_; rintro e w0 ⟨rfl, n0, rfl⟩; clear HL0 ml0)
              | (go_at_call 96; refine (HL1.out n0).mono ?_; rintro e w1 ⟨rfl, n1, rfl⟩)
              | (go_at_call 97; refine (HSW.out n1).mono ?_; rintro e w2 ⟨rfl, o2, g2'⟩; have GH2 := hide ((GH.out.drewN n1).swapped o2 g2'); have GT2 := hide ((GT.out.trans (HT.below (below_drewN (Below.refl _ _) n1))).trans (HT.grown g2' (fun _ e => .inl e))); clear o2 g2'))
            go_roundg g
            case rel => exact ⟨2 * i + 1, swp l' i (2 * i + 1), by go_num, by omega, by omega, by rw [swp_len]; exact G3.out, GE2, GH2, GT2⟩
            case measure => omega
          · have GE2 : Hid (dnP (n + 1) l 0 n = l') := GE.out.trans (dnP_stop c hk (by rw [hy', hx']; exact e))
            have he : decide (y < x) = false := by simp [e]
            rw [he] at HL1
            have G2 := hide g2
            clear hk hx hy hx' hy' GE e he hz hz' 
            go_wp2_with (first
              | (go_at_call 96; refine HL0.out.mono ?_; rintro e w0 ⟨rfl, n0, rfl⟩; clear HL0 ml0)
              | (go_at_call 96; refine (HL1.out n0).mono ?_; rintro e w1 ⟨rfl, n1, rfl⟩))
            go_ret
            exact ⟨⟨_, rfl⟩, by rw [GE2.out]; exact GH.out.drewN n1, GT.out.trans (HT.below (below_drewN (Below.refl _ _) n1))⟩
      · have hk : (if 2 * i + 2 < n ∧ l'.getD (2 * i + 2) 0 < l'.getD (2 * i + 1) 0 then 2 * i + 2 else 2 * i + 1) = 2 * i + 1 := if_neg (by omega)
        have d1 : ¬ 2 * (i : Int) + 1 + 1 < (n : Int) := by omega
        have HSW : Hid (∀ m, Calls Try.prog 97 #[rv, .int .i64 (i : Int), .int .i64 (2 * (i : Int) + 1)] (wr.drewN m) fun e w' => e = .returned (.tuple #[]) ∧ OwnN base w' rv (swp l' i (2 * i + 1)) ∧ (wr.drewN m).grownBy w' rv.ownBlock) := fun m => by
          have := swap_any (GH.out.drewN m).own (show i < l'.length by omega) (show 2 * i + 1 < l'.length by omega)
          rwa [show (((2 * i + 1 : Nat) : Int)) = 2 * (i : Int) + 1 from by omega] at this
        by_cases e : y < x
        · have GE2 : Hid (dnP (n + 1) l 0 n = dnP g (swp l' i (2 * i + 1)) (2 * i + 1) n) := GE.out.trans (dnP_go c hk (by rw [hy', hx']; exact e))
          have he : decide (y < x) = true := by simp [e]
          rw [he] at HL1
          have G2 := hide g2
          clear hk hx hy hx' hy' GE e he 
          go_wp2_with (first
            | (go_at_call 96; refine (HL1.out 0).mono ?_; rintro e w1 ⟨rfl, n1, rfl⟩)
            | (go_at_call 97; refine (HSW.out n1).mono ?_; rintro e w2 ⟨rfl, o2, g2'⟩; have GH2 := hide ((GH.out.drewN n1).swapped o2 g2'); have GT2 := hide ((GT.out.trans (HT.below (below_drewN (Below.refl _ _) n1))).trans (HT.grown g2' (fun _ e => .inl e))); clear o2 g2'))
          go_roundg g
          case rel => exact ⟨2 * i + 1, swp l' i (2 * i + 1), by go_num, by omega, by omega, by rw [swp_len]; exact G3.out, GE2, GH2, GT2⟩
          case measure => omega
        · have GE2 : Hid (dnP (n + 1) l 0 n = l') := GE.out.trans (dnP_stop c hk (by rw [hy', hx']; exact e))
          have he : decide (y < x) = false := by simp [e]
          rw [he] at HL1
          have G2 := hide g2
          clear hk hx hy hx' hy' GE e he 
          go_wp2_with (first
            | (go_at_call 96; refine (HL1.out 0).mono ?_; rintro e w1 ⟨rfl, n1, rfl⟩))
          go_ret
          exact ⟨⟨_, rfl⟩, by rw [GE2.out]; exact GH.out.drewN n1, GT.out.trans (HT.below (below_drewN (Below.refl _ _) n1))⟩
end Go.Proofs.Ytfiafbfbiidnlaa

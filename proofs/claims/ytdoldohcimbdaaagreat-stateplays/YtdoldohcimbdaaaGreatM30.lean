/-
  Texts in build order: SRead, SOpen.
-/
import Derived.Test.YtdoldohcimbdaaaGreatM29
import Derived.Laws.MakeOwn
import Derived.BigQuiet
import Derived.Laws.BytesArg
/-
  read: panes out of bytes.
-/
namespace Go.Proofs.YtdoldohcimbdaaaGreat
open Go.RowKit

/-- Another thing at one place of a row of one's own. -/
theorem OwnL.setAt {α : Type} {t sz : Nat} {cs : α → List Value} (hcs : ∀ x, (cs x).length = sz) (hs : 0 < sz) {base : Nat} {w : World} {g n cap : Nat} {l : List α} (h : OwnL t sz cs base w (.slice (some ⟨g, 0, none⟩) n cap) l) {i : Nat} (hi : i < l.length) (x : α) : OwnL t sz cs base (w.setCells g (i * sz) (cs x)) (.slice (some ⟨g, 0, none⟩) n cap) (l.set i x) := by
  rcases h.2 with ⟨e, _⟩ | ⟨g', cap', cur, e, h2, h3, h4, h5, h6, h7⟩
  · cases e
  · cases e
    have hb : BoxT t w g cur := h3
    have hfit : i * sz + sz ≤ cur.size := by
      have h8 : (i + 1) * sz ≤ cap * sz := Nat.mul_le_mul_right _ (by omega)
      rw [Nat.succ_mul] at h8
      omega
    refine ⟨flat_size hcs _, .inr ⟨g, cap, setL cur (i * sz) (cs x), by simp, h2, hb.setCells (cs x), by simpa using h4, h5, by rw [setL_size]; exact h6, ?_⟩⟩
    apply List.ext_getElem?
    intro q
    rw [List.getElem?_take, List.length_set]
    by_cases hq : q < l.length * sz
    · rw [if_pos hq, Array.getElem?_toList]
      have hq4 : q / sz < l.length := (Nat.div_lt_iff_lt_mul hs).2 hq
      have hm : q % sz < sz := Nat.mod_lt _ hs
      have hdm : q / sz * sz + q % sz = q := by rw [Nat.mul_comm]; exact Nat.div_add_mod q sz
      by_cases hqi : q / sz = i
      · have hx : (l.set i x)[q / sz]? = some x := by rw [hqi, List.getElem?_set_self hi]
        obtain ⟨u, hu⟩ := get_of_lt (show q % sz < (cs x).length by rw [hcs]; exact hm)
        have h9 := flat_get hcs _ (q / sz) (q % sz) _ u hx hu
        rw [hdm] at h9
        rw [h9]
        have h10 := setL_in (cs x) cur (i * sz) (q % sz) u (by rw [hcs]; exact hfit) hu
        rw [← hqi, hdm, hqi] at h10
        exact h10
      · obtain ⟨y, hy⟩ := get_of_lt hq4
        have hx : (l.set i x)[q / sz]? = some y := by rw [List.getElem?_set_ne (fun e => hqi e.symm)]; exact hy
        obtain ⟨u, hu⟩ := get_of_lt (show q % sz < (cs y).length by rw [hcs]; exact hm)
        have h9 := flat_get hcs _ (q / sz) (q % sz) _ u hx hu
        rw [hdm] at h9
        have hout : q < i * sz ∨ i * sz + (cs x).length ≤ q := by
          rw [hcs]
          rcases Nat.lt_or_gt_of_ne hqi with hlt | hgt
          · have : (q / sz + 1) * sz ≤ i * sz := Nat.mul_le_mul_right _ hlt
            rw [Nat.succ_mul] at this; omega
          · have : (i + 1) * sz ≤ q / sz * sz := Nat.mul_le_mul_right _ hgt
            rw [Nat.succ_mul] at this; omega
        rw [h9, setL_out _ _ _ _ hout]
        have h8 := flat_get hcs l (q / sz) (q % sz) y u hy hu
        rw [← h7, List.getElem?_take] at h8
        split at h8
        · rw [hdm] at h8; simpa using h8
        · cases h8
    · rw [if_neg hq, List.getElem?_eq_none (by rw [flat_size hcs, List.length_set]; omega)]
def rdN (l : List Nat) : Nat := nOf (l.take 4)
def rdOk (l : List Nat) : Prop := 4 ≤ l.length ∧ l.length - 4 = rdN l * 32
def rdP (l : List Nat) : List Pn := (List.range (rdN l)).map fun i => pOf ((l.drop 4).drop (i * 32))
def P0 : Pn := ⟨0, 0, 0, 0⟩
theorem rdP_len (l : List Nat) : (rdP l).length = rdN l := by simp [rdP]
theorem flat_P0 (n : Nat) : (List.replicate n P0).flatMap Pn.cs = List.replicate (n * 4) (.int .i64 0) := by
  induction n with
  | zero => rfl
  | succ n ih => rw [List.replicate_succ, List.flatMap_cons, ih, Nat.succ_mul, Nat.add_comm (n * 4), ← List.replicate_append_replicate]; rfl
theorem made_P0 (n : Nat) : (madeCells (Value.agg #[.int .i64 0, .int .i64 0, .int .i64 0, .int .i64 0]).cells (n * 4)).toList = List.replicate (n * 4) (.int .i64 0) := by
  apply List.ext_getElem
  · simp [size_madeCells]
  · intro i h1 h2
    have h4 : i % 4 = 0 ∨ i % 4 = 1 ∨ i % 4 = 2 ∨ i % 4 = 3 := by omega
    rcases h4 with h4 | h4 | h4 | h4 <;> simp [madeCells, Value.cells, h4]
theorem mkPn (w : World) (n : Nat) (hn : n ≤ 1000000) : ∃ w1, (Instr.makeSlice 44 (.int .u64 (n : Int)) (.int .u64 (n : Int))).run Tryz.prog w = .ok (.slice (some ⟨w.heap.size, 0, none⟩) n n) w1 ∧ OwnL 70 4 Pn.cs w.heap.size w1 (.slice (some ⟨w.heap.size, 0, none⟩) n n) (List.replicate n P0) ∧ Below w.heap.size w w1 := by
  obtain ⟨i0, hi, hz0, hz1, hz2⟩ := info_parts Tryz.infoPn
  have := run_make (P := Tryz.prog) w 44 70 i0 _ (by kernel_rfl) hi hz0 .u64 .u64 (n : Int) (n : Int) (by omega) (Int.le_refl _) (by rw [hz2]; omega) (by omega)
  rw [hz1, Int.toNat_natCast] at this
  refine ⟨_, this, ⟨flat_size Pn.cs_len _, .inr ⟨w.heap.size, n, _, by simp, Nat.le_refl _, BoxT.new 70 w _, by simp, by unfold maxLen; omega, by rw [size_madeCells], ?_⟩⟩, (Below.refl _ _).alloc (Nat.le_refl _) _⟩
  rw [made_P0, flat_P0]
  simp
def RdPost (w : World) (l : List Nat) (e : Ending) (w' : World) : Prop := Below w.heap.size w w' ∧ ((¬ rdOk l ∧ e = .returned (.tuple #[.slice none 0 0, .bool false])) ∨ (rdOk l ∧ ∃ u, e = .returned (.tuple #[u, .bool true]) ∧ OwnL 70 4 Pn.cs w.heap.size w' u (rdP l)))
theorem read_short (w : World) (ao : Option Addr) (cap : Nat) (l : List Nat) (h : l.length < 4) : Calls Tryz.prog 43 #[.slice ao l.length cap] w (RdPost w l) := by
  have h0 : (l.length : Int) < 4 := by omega
  have HN : Hid (¬ rdOk l) := fun e => by have := e.1; omega
  go_enter Tryz.func43, Tryz.ntmps43
  go_wp2_with fail
  exact bodyPost_ret (v := .tuple #[.slice none 0 0, .bool false]) (by simp [results, Tryz.results43, go_sem]) rfl ⟨Below.refl _ _, .inl ⟨HN.out, rfl⟩⟩
def rdI (l : List Nat) (i : Nat) : List Pn := (rdP l).take i ++ List.replicate (rdN l - i) P0
theorem rdI_len (l : List Nat) (i : Nat) (h : i ≤ rdN l) : (rdI l i).length = rdN l := by simp [rdI, rdP_len]; omega
theorem rdI_step (l : List Nat) (i : Nat) (h : i < rdN l) : (rdI l i).set i (pOf ((l.drop 4).drop (i * 32))) = rdI l (i + 1) := by
  have hl : i < (rdP l).length := by rw [rdP_len]; exact h
  have e : (rdP l)[i] = pOf ((l.drop 4).drop (i * 32)) := by simp [rdP]
  unfold rdI
  rw [List.set_append_right _ _ (by simp; omega), List.take_succ_eq_append_getElem hl, e, List.append_assoc]
  congr 1
  rw [List.length_take, Nat.min_eq_left (Nat.le_of_lt hl), Nat.sub_self, show rdN l - i = (rdN l - (i + 1)) + 1 by omega, List.replicate_succ]
  rfl
theorem BSeg.from {B : Nat} {w : World} {b off cap : Nat} {l : List Nat} (h : BSeg B w b off cap l) {j : Nat} (hj : j ≤ l.length) : BSeg B w b (off + j) (cap - j) (l.drop j) := by
  refine ⟨h.1, by rw [List.length_drop]; have := h.2.1; omega, by have := h.2.2.1; omega, fun x hx => h.2.2.2.1 x (List.mem_of_mem_drop hx), fun i x hx => ?_⟩
  rw [List.getElem?_drop] at hx
  rw [Nat.add_assoc]
  exact h.2.2.2.2 _ x hx
theorem BSeg.head {B : Nat} {w : World} {b off cap : Nat} {l : List Nat} (h : BSeg B w b off cap l) (hB : B ≤ w.heap.size) (hj : 4 ≤ l.length) : LSeg 1 u8cs w.heap.size w (.slice (some ⟨b, off, none⟩) 4 cap) (l.take 4) := by
  have hl : (l.take 4).length = 4 := by rw [List.length_take]; omega
  refine ⟨some ⟨b, off, none⟩, cap, by rw [hl], by rw [hl]; omega, .inr ⟨b, off, rfl, Nat.lt_of_lt_of_le h.1 hB, fun i x hx q u hu => ?_⟩⟩
  rw [List.getElem?_take] at hx
  split at hx
  · have h1 := h.2.2.2.2 _ x hx
    match q, hu with
    | 0, hu =>
      simp [u8cs] at hu
      subst hu
      simp at *
      exact h1
  · cases hx
theorem BSeg.mono {B B' : Nat} {w : World} {b off cap : Nat} {l : List Nat} (h : BSeg B w b off cap l) (hB : B ≤ B') : BSeg B' w b off cap l := ⟨Nat.lt_of_lt_of_le h.1 hB, h.2⟩
set_option maxHeartbeats 4000000 in
set_option maxRecDepth 100000 in
theorem read_any {w : World} {b off cap : Nat} {l : List Nat} (h : BSeg w.heap.size w b off cap l) (h4 : 4 ≤ l.length) (hn : l.length ≤ 640000) : Calls Tryz.prog 43 #[.slice (some ⟨b, off, none⟩) l.length cap] w (RdPost w l) := by
  have HN := hide (fun (w1 : World) (hb1 : Below w.heap.size w w1) => numberOf_any ((h.below hb1).head hb1.size h4) (fun x hx => h.2.2.2.1 x (List.mem_of_mem_take hx)) (by rw [List.length_take]; omega))
  have hlt : rdN l < 4294967296 := by
    have h1 := nOf_lt (l.take 4) (fun x hx => h.2.2.2.1 x (List.mem_of_mem_take hx))
    rw [List.length_take, Nat.min_eq_left h4] at h1
    exact h1
  rw [show nOf (l.take 4) = rdN l from rfl] at HN
  have HS := hide h
  have hcap := h.2.1
  have hcm := h.2.2.1
  obtain ⟨LL, hLL⟩ : ∃ LL, LL = l.length := ⟨_, rfl⟩
  obtain ⟨C, hC⟩ : ∃ C, C = rdN l := ⟨_, rfl⟩
  rw [← hC] at HN
  have h40 : ¬ (LL : Int) < 4 := by omega
  have h41 : (4 : Int) ≤ LL := by omega
  have hcp4 : 4 ≤ cap := by omega
  have hcpL : LL ≤ cap := by omega
  have hi1 : (4 : Int) ≤ (cap : Int) := by omega
  have hi2 : ¬ ((cap : Int) < 4) := by omega
  have hi3 : (LL : Int) ≤ (cap : Int) := by omega
  have hi4 : ¬ ((cap : Int) < (LL : Int)) := by omega
  have hi5 : ¬ (cap < 4) := by omega
  have hi6 : ¬ (LL < 4) := by omega
  have hub : IntKind.u64.wrap ((LL : Int) - 4) = (LL : Int) - 4 := by rw [IntKind.wrap_u64]; omega
  have hum : IntKind.u64.wrap ((C : Int) * 32) = (C : Int) * 32 := by rw [IntKind.wrap_u64]; omega
  rw [← hLL]
  have HLL := hide hLL
  have HC := hide hC
  clear h hLL hC
  by_cases hok : LL - 4 = C * 32
  · have hb : ((LL : Int) - 4 == (C : Int) * 32) = true := by rw [beq_iff_eq]; omega
    have HO : Hid (rdOk l) := ⟨h4, by rw [← HLL.out, ← HC.out]; exact hok⟩
    have hC2 : C ≤ 20000 := by have := HLL.out; omega
    by_cases hc4 : cap = 4
    · obtain rfl : C = 0 := by omega
      obtain rfl : LL = 4 := by omega
      subst hc4
      have HP : Hid (rdP l = []) := (show _ = _ by unfold rdP; rw [← HC.out]; rfl)
      have hz : rdN l = 0 := HC.out.symm
      go_enter Tryz.func43, Tryz.ntmps43
      go_upto_region 3 with fail
      go_quiet (first | (exact Calls.quiet_of_same (HN.out _ (below_drewN (Below.refl _ _) _))) | fail)
      obtain ⟨W0, hW0⟩ : ∃ W0, W0 = w.drewN nq := ⟨_, rfl⟩
      rw [← hW0]
      have hZ0 : W0.heap.size = w.heap.size := by rw [hW0]; simp
      have HB0 : Hid (Below w.heap.size w W0) := by rw [hW0]; exact below_drewN (Below.refl _ _) _
      obtain ⟨w1, hr1, o1, b1⟩ := mkPn W0 0 (by omega)
      rw [hZ0] at hr1 o1 b1
      have O1 := hide o1
      have B1 := hide (HB0.out.trans b1)
      clear hW0 o1 b1 HB0
      rw [show ((0 : Nat) : Int) = 0 from rfl] at hr1
      go_wp2_with fail
      go_loopw [26] (fun iv wr => iv = .int .i64 0 ∧ wr = w1) (fun _ _ => 0)
      case atStart => exact ⟨rfl, rfl⟩
      case round =>
        obtain ⟨rfl, rfl⟩ := hrel
        go_wp2_with fail
        exact bodyPost_ret (v := .tuple #[.slice (some ⟨w.heap.size, 0, none⟩) 0 0, .bool true]) (by simp [results, Tryz.results43, go_sem]) rfl ⟨B1.out, .inr ⟨HO.out, _, rfl, by rw [HP.out]; exact O1.out⟩⟩
    · have hc4b : (cap = 4) = False := by simpa using hc4
      have hc4c : (cap == 4) = false := by simpa using hc4
      have HW : Hid (∀ W, Below w.heap.size w W → BSeg w.heap.size W b (off + 4) (cap - 4) (l.drop 4)) := fun W hb => (HS.out.below hb).from h4
      have HDL : Hid ((l.drop 4).length = C * 32) := (show _ = _ by rw [List.length_drop, ← HLL.out]; exact hok)
      go_enter Tryz.func43, Tryz.ntmps43
      go_upto_region 3 with fail
      go_quiet (first | (exact Calls.quiet_of_same (HN.out _ (below_drewN (Below.refl _ _) _))) | fail)
      obtain ⟨W0, hW0⟩ : ∃ W0, W0 = w.drewN nq := ⟨_, rfl⟩
      rw [← hW0]
      have hZ0 : W0.heap.size = w.heap.size := by rw [hW0]; simp
      have HB0 : Hid (Below w.heap.size w W0) := by rw [hW0]; exact below_drewN (Below.refl _ _) _
      obtain ⟨w1, hr1, o1, b1⟩ := mkPn W0 C (by omega)
      rw [hZ0] at hr1 o1 b1
      have O1 : Hid (OwnL 70 4 Pn.cs w.heap.size w1 (.slice (some ⟨w.heap.size, 0, none⟩) C C) (rdI l 0)) := (show OwnL _ _ _ _ _ _ _ by unfold rdI; rw [← HC.out]; exact o1)
      have B1 := hide (HB0.out.trans b1)
      clear hW0 o1 b1 HB0
      go_wp2_with fail
      go_loopg [26] (C + 1) (fun gh iv wr => ∃ i : Nat, iv = .int .i64 (i : Int) ∧ i ≤ C ∧ C + 1 ≤ gh + i ∧ Hid (OwnL 70 4 Pn.cs w.heap.size wr (.slice (some ⟨w.heap.size, 0, none⟩) C C) (rdI l i)) ∧ Hid (Below w.heap.size w wr))
      case atStart => exact ⟨0, rfl, by omega, by omega, O1, B1⟩
      case round =>
        clear O1 B1
        obtain ⟨i, rfl, hi, hg, GO, GB⟩ := hrel
        obtain ⟨go, rfl⟩ : ∃ go, gk = go + 1 := ⟨gk - 1, by omega⟩
        by_cases hlt2 : i < C
        · have bt : (i : Int) < (C : Int) := by omega
          have hil : i * 32 + 32 ≤ C * 32 := by omega
          have hsz := GB.out.size
          have HPA := hide (paneOf_any (w := wr) (((HW.out wr GB.out).from (j := i * 32) (by rw [HDL.out]; omega)).mono hsz) (by rw [List.length_drop, HDL.out]; omega))
          rw [List.length_drop, HDL.out] at HPA
          have HPX : Hid ((rdI l i).set i (pOf ((l.drop 4).drop (i * 32))) = rdI l (i + 1)) := (show _ = _ from rdI_step l i (by rw [← HC.out]; exact hlt2))
          have HIL : Hid (i < (rdI l i).length) := (show _ < _ by rw [rdI_len l i (by rw [← HC.out]; omega), ← HC.out]; exact hlt2)
          generalize pOf ((l.drop 4).drop (i * 32)) = X at *
          obtain ⟨xk, xf, xt, xa⟩ := X
          have hci : i * 32 ≤ C * 32 := by omega
          have hcc : C * 32 ≤ cap - 4 := by omega
          have hcne : ¬ (i * 32 = cap - 4) := by omega
          rw [show Pn.val ⟨xk, xf, xt, xa⟩ = .agg #[.int .i64 xk, .int .i64 xf, .int .i64 xt, .int .i64 xa] from rfl] at HPA
          have HST : Hid (∀ w2, Below wr.heap.size wr w2 → (∀ j, j < 4 → ∃ u, w2.cell? ⟨w.heap.size, i * 4 + j, none⟩ = some u) ∧ (∀ j, w2.frozen? ⟨w.heap.size, j, none⟩ = false) ∧ OwnL 70 4 Pn.cs w.heap.size (w2.setCells w.heap.size (i * 4) (Pn.cs ⟨xk, xf, xt, xa⟩)) (.slice (some ⟨w.heap.size, 0, none⟩) C C) (rdI l (i + 1)) ∧ Below w.heap.size w (w2.setCells w.heap.size (i * 4) (Pn.cs ⟨xk, xf, xt, xa⟩))) := fun w2 hb2 => by
            have ho2 := GO.out.below hb2
            refine ⟨fun j hj => ?_, fun j => ?_, ?_, ?_⟩
            · rcases ho2.2 with ⟨e, _⟩ | ⟨g', cap', cur, e, q2, q3, q4, q5, q6, q7⟩
              · cases e
              · cases e
                have hb : BoxT 70 w2 w.heap.size cur := q3
                rw [hb.cellAt]
                exact ⟨_, Array.getElem?_eq_getElem (by rw [q6]; omega)⟩
            · rcases ho2.2 with ⟨e, _⟩ | ⟨g', cap', cur, e, q2, q3, q4, q5, q6, q7⟩
              · cases e
              · cases e
                have hb : BoxT 70 w2 w.heap.size cur := q3
                exact hb.free j
            · have h9 := ho2.setAt Pn.cs_len (by omega) HIL.out ⟨xk, xf, xt, xa⟩
              rw [HPX.out] at h9
              exact h9
            · exact (GB.out.trans (hb2.mono hsz)).grown (grown_setCells _ _ _ _) (by have := hb2.size; omega) (fun k e => by cases e; exact Nat.le_refl _)
          go_wp2_with (first | (go_at_call 63; refine HPA.out.mono ?_; rintro e w2 ⟨rfl, b2⟩; obtain ⟨hc, hf, O2, B2⟩ := HST.out w2 b2; obtain ⟨c0, hc0⟩ := hc 0 (by omega); obtain ⟨c1, hc1⟩ := hc 1 (by omega); obtain ⟨c2, hc2⟩ := hc 2 (by omega); obtain ⟨c3, hc3⟩ := hc 3 (by omega); have OO := hide O2; have BB := hide B2; clear O2 B2 hc b2; simp only [Nat.add_zero] at hc0) | fail)
          go_roundg go
          case rel => exact ⟨i + 1, by go_num, by omega, by omega, OO, BB⟩
          case measure => omega
        · obtain rfl : i = C := by omega
          have bt : ¬ ((i : Nat) : Int) < (i : Int) := by omega
          have HP : Hid (rdI l i = rdP l) := (show _ = _ by unfold rdI; rw [← HC.out, Nat.sub_self, List.take_of_length_le (by rw [rdP_len, ← HC.out]; omega)]; simp)
          go_wp2_with fail
          exact bodyPost_ret (v := .tuple #[.slice (some ⟨w.heap.size, 0, none⟩) i i, .bool true]) (by simp [results, Tryz.results43, go_sem]) rfl ⟨GB.out, .inr ⟨HO.out, _, rfl, by rw [← HP.out]; exact GO.out⟩⟩
  · have hb : ((LL : Int) - 4 == (C : Int) * 32) = false := by rw [beq_eq_false_iff_ne]; omega
    have HO : Hid (¬ rdOk l) := fun e => by have h1 := e.2; rw [← HLL.out, ← HC.out] at h1; exact hok h1
    by_cases hc4 : cap = 4
    · subst hc4
      go_enter Tryz.func43, Tryz.ntmps43
      go_upto_region 3 with fail
      go_quiet (first | (exact Calls.quiet_of_same (HN.out _ (below_drewN (Below.refl _ _) _))) | fail)
      go_wp2_with fail
      exact bodyPost_ret (v := .tuple #[.slice none 0 0, .bool false]) (by simp [results, Tryz.results43, go_sem]) rfl ⟨below_drewN (Below.refl _ _) _, .inl ⟨HO.out, rfl⟩⟩
    · have hc4b : (cap = 4) = False := by simpa using hc4
      have hc4c : (cap == 4) = false := by simpa using hc4
      go_enter Tryz.func43, Tryz.ntmps43
      go_upto_region 3 with fail
      go_quiet (first | (exact Calls.quiet_of_same (HN.out _ (below_drewN (Below.refl _ _) _))) | fail)
      go_wp2_with fail
      exact bodyPost_ret (v := .tuple #[.slice none 0 0, .bool false]) (by simp [results, Tryz.results43, go_sem]) rfl ⟨below_drewN (Below.refl _ _) _, .inl ⟨HO.out, rfl⟩⟩
end Go.Proofs.YtdoldohcimbdaaaGreat
/-
  bytes.Equal, Open.
-/
namespace Go.Proofs.YtdoldohcimbdaaaGreat
open Go.RowKit

def sOf (l : List Nat) : ByteArray := strOfNums (l.map fun x : Nat => (x : Int))
theorem sOf_inj : ∀ {l m : List Nat}, (∀ x ∈ l, x < 256) → (∀ x ∈ m, x < 256) → sOf l = sOf m → l = m := by
  intro l m hl hm h
  have h1 : (sOf l).data.toList = (sOf m).data.toList := by rw [h]
  unfold sOf at h1
  rw [strOfNums_data, strOfNums_data, List.map_map, List.map_map] at h1
  clear h
  induction l generalizing m with
  | nil => cases m with
    | nil => rfl
    | cons y m => simp at h1
  | cons x l ih => cases m with
    | nil => simp at h1
    | cons y m =>
      simp only [List.map_cons, List.cons.injEq, Function.comp] at h1
      have e1 := congrArg UInt8.toNat h1.1
      have hx := hl x (List.mem_cons_self ..)
      have hy := hm y (List.mem_cons_self ..)
      simp [UInt8.toNat_ofNat', Nat.mod_eq_of_lt hx, Nat.mod_eq_of_lt hy] at e1
      rw [e1, ih (fun z hz => hl z (List.mem_cons_of_mem _ hz)) (fun z hz => hm z (List.mem_cons_of_mem _ hz)) h1.2]
theorem sOf_eq {l m : List Nat} (hl : ∀ x ∈ l, x < 256) (hm : ∀ x ∈ m, x < 256) : ((sOf l).toList == (sOf m).toList) = decide (l = m) := by
  rw [ByteArray.toList_eq, ByteArray.toList_eq]
  by_cases h : l = m
  · subst h; simp
  · rw [decide_eq_false h]
    rw [beq_eq_false_iff_ne]
    exact fun e => h (sOf_inj hl hm (by
      have : (sOf l).data = (sOf m).data := Array.toList_inj.1 e
      cases h1 : sOf l; cases h2 : sOf m
      rw [h1, h2] at this
      exact congrArg _ this))
theorem run_str {w : World} {v : Value} {l : List Nat} (h : LSeg 1 u8cs w.heap.size w v l) (hne : l ≠ []) : (convert 58 9 v).run Tryz.prog w = .ok (.string (sOf l)) w := by
  obtain ⟨ao, cap, rfl, hl, hc⟩ := h
  rcases hc with hc | ⟨b, off, rfl, hb, hc⟩
  · exact absurd hc hne
  · refine run_convert_bytes_arg (P := Tryz.prog) w 58 5 Tryz.underlying58 (by kernel_rfl) b off l.length cap (l.map fun x : Nat => (x : Int)) (by simp) (fun i hi => ?_) 9 (by kernel_rfl)
    have hx : l[i]? = some l[i] := List.getElem?_eq_getElem hi
    have h1 := hc i _ hx 0 _ rfl
    simp only [Nat.mul_one, Nat.add_zero] at h1
    rw [h1]
    simp [List.getD, hx]
set_option maxHeartbeats 4000000 in
set_option maxRecDepth 100000 in
theorem Equal_any {w : World} {v1 v2 : Value} {l1 l2 : List Nat} (h1 : LSeg 1 u8cs w.heap.size w v1 l1) (h2 : LSeg 1 u8cs w.heap.size w v2 l2) (n1 : l1 ≠ []) (n2 : l2 ≠ []) (b1 : ∀ x ∈ l1, x < 256) (b2 : ∀ x ∈ l2, x < 256) :
    Calls Tryz.prog 44 #[v1, v2] w fun e w' => e = .returned (.bool (decide (l1 = l2))) ∧ w' = w := by
  have r1 := run_str h1 n1
  have r2 := run_str h2 n2
  have he := sOf_eq b1 b2
  generalize sOf l1 = S1 at *
  generalize sOf l2 = S2 at *
  generalize decide (l1 = l2) = D at *
  clear h1 h2 n1 n2 b1 b2
  go_enter Tryz.func44, Tryz.ntmps44
  go_wp2_with fail
  go_ret
  exact ⟨rfl, rfl⟩
theorem be_byte : ∀ (k n : Nat), ∀ x ∈ be k n, x < 256
  | 0, _, x, h => by cases h
  | k + 1, n, x, h => by
    simp only [be, List.mem_cons] at h
    rcases h with rfl | h
    · exact Nat.mod_lt _ (by omega)
    · exact be_byte k n x h
theorem wrB_byte (L : List Pn) : ∀ x ∈ wrB L, x < 256 := by
  intro x hx
  unfold wrB at hx
  rw [List.mem_append, List.mem_flatMap] at hx
  rcases hx with hx | ⟨y, _, hx⟩
  · exact be_byte _ _ x hx
  · unfold wb sbe at hx
    simp only [List.mem_append] at hx
    rcases hx with ((hx | hx) | hx) | hx <;> exact be_byte _ _ x hx
theorem wrap64_in (x : Int) : In64 (wrap64 x) := by
  unfold In64 wrap64
  omega
theorem g8_in (l : List Nat) (j : Nat) : In64 (g8 l j) := wrap64_in _
theorem rdP_ok (l : List Nat) : ∀ x ∈ rdP l, PnOk x := by
  intro x hx
  unfold rdP at hx
  rw [List.mem_map] at hx
  obtain ⟨i, _, rfl⟩ := hx
  exact ⟨g8_in _ _, g8_in _ _, g8_in _ _, g8_in _ _⟩
/-- What Open answers. -/
def OpPost (w : World) (kd size slide ag : Int) (l : List Nat) (e : Ending) (w' : World) : Prop := Below w.heap.size w w' ∧
  ((e = .returned (.tuple #[.pointer none, .int .i64 120]) ∧ (¬ rdOk l ∨ ∃ M, Comes (sess kd) (jn ag) (rdP l) M ∧ wrB (srt M) ≠ l)) ∨
    (rdOk l ∧ ∃ s fp M, e = .returned (.tuple #[.pointer (some ⟨s, 0, none⟩), .int .i64 0]) ∧ SA w' s kd size slide ag fp M ∧ (∀ i, fp i → w.heap.size ≤ i) ∧ Comes (sess kd) (jn ag) (rdP l) M ∧ wrB (srt M) = l))
def ByS (w : World) (v : Value) (l : List Nat) : Prop := ∃ ao cap, v = .slice ao l.length cap ∧ (l.length < 4 ∨ ∃ b off, ao = some ⟨b, off, none⟩ ∧ BSeg w.heap.size w b off cap l)
theorem ByS.below {w w' : World} {v : Value} {l : List Nat} (h : ByS w v l) (hb : Below w.heap.size w w') : ByS w' v l := by
  obtain ⟨ao, cap, rfl, h⟩ := h
  refine ⟨ao, cap, rfl, ?_⟩
  rcases h with h | ⟨b, off, rfl, h1⟩
  · exact .inl h
  · exact .inr ⟨b, off, rfl, (h1.below hb).mono hb.size⟩
theorem read_all {w : World} {v : Value} {l : List Nat} (h : ByS w v l) (hn : l.length ≤ 640000) : Calls Tryz.prog 43 #[v] w (RdPost w l) := by
  obtain ⟨ao, cap, rfl, h⟩ := h
  by_cases h4 : l.length < 4
  · exact read_short w ao cap l h4
  · rcases h with h | ⟨b, off, rfl, h⟩
    · exact absurd h h4
    · exact read_any h (by omega) hn
theorem read_no {w : World} {v : Value} {l : List Nat} (h : ByS w v l) (hn : l.length ≤ 640000) (hno : ¬ rdOk l) : Calls Tryz.prog 43 #[v] w fun e w' => e = .returned (.tuple #[.slice none 0 0, .bool false]) ∧ Below w.heap.size w w' :=
  (read_all h hn).mono fun _ _ h => ⟨h.2.elim (fun h => h.2) (fun h => absurd h.1 hno), h.1⟩
theorem read_yes {w : World} {v : Value} {l : List Nat} (h : ByS w v l) (hn : l.length ≤ 640000) (hok : rdOk l) : Calls Tryz.prog 43 #[v] w fun e w' => ∃ u, e = .returned (.tuple #[u, .bool true]) ∧ OwnL 70 4 Pn.cs w.heap.size w' u (rdP l) ∧ Below w.heap.size w w' :=
  (read_all h hn).mono fun _ _ h => h.2.elim (fun h => absurd hok h.1) (fun ⟨_, u, h1, h2⟩ => ⟨u, h1, h2, h.1⟩)
theorem BSeg.seg {B : Nat} {w : World} {b off cap : Nat} {l : List Nat} (h : BSeg B w b off cap l) (hB : B ≤ w.heap.size) (hl : l.length ≤ 140737488355328) : LSeg 1 u8cs w.heap.size w (.slice (some ⟨b, off, none⟩) l.length cap) l := by
  refine ⟨some ⟨b, off, none⟩, cap, rfl, hl, .inr ⟨b, off, rfl, Nat.lt_of_lt_of_le h.1 hB, fun i x hx q u hu => ?_⟩⟩
  have h1 := h.2.2.2.2 _ x hx
  match q, hu with
  | 0, hu =>
    simp [u8cs] at hu
    subst hu
    simp at *
    exact h1
set_option maxHeartbeats 4000000 in
set_option maxRecDepth 100000 in
theorem Open_any {w : World} {v : Value} {l : List Nat} (kd size slide ag : Int) (h : ByS w v l) (hn : l.length ≤ 640000) (hse : kd = 3 → ∀ x ∈ rdP l, x.f < x.t) :
    Calls Tryz.prog 17 #[.agg #[.int .i64 kd, .int .i64 size, .int .i64 slide], .int .i64 ag, v] w (OpPost w kd size slide ag l) := by
  have hb1 := below_box w (.cells #[.int .i64 kd, .int .i64 size, .int .i64 slide] 23)
  obtain ⟨W1, hW1⟩ : ∃ W1, W1 = w.alloc (.cells #[.int .i64 kd, .int .i64 size, .int .i64 slide] 23) := ⟨_, rfl⟩
  have hk1 : BoxT 23 W1 w.heap.size #[.int .i64 kd, .int .i64 size, .int .i64 slide] := by rw [hW1]; exact BoxT.new _ _ _
  rw [← hW1] at hb1
  by_cases hok : rdOk l
  · have HRD := hide (read_yes (h.below hb1) hn hok)
    obtain ⟨ao, cap, rfl, hc⟩ := h.below hb1
    have h4 : 4 ≤ l.length := hok.1
    have hcn : rdN l ≤ 20000 := by have := hok.2; omega
    obtain ⟨vb, vo, rfl, hbs⟩ : ∃ b off, ao = some ⟨b, off, none⟩ ∧ BSeg W1.heap.size W1 b off cap l := by
      rcases hc with hc | hc
      · omega
      · exact hc
    have HV := hide hbs
    have HB1 := hide hb1
    have HSE := hide hse
    have HOK := hide hok
    have HH4 := hide h4
    have HCN := hide hcn
    have HK1 := hide hk1
    have HLN : Hid (l.length ≤ 140737488355328) := Nat.le_trans hn (by omega)
    clear h hb1 hse hn hok hc hbs h4 hcn hk1
    have HNW := hide (fun W => New_any W kd size slide ag)
    go_enter Tryz.func17, Tryz.ntmps17
    go_upto_region 1 with fail
    rw [← hW1]
    clear hW1
    go_upto_region 4 with (first | (go_at_call 43; refine HRD.out.mono ?_; rintro e w2 ⟨u, rfl, o2, b2⟩; have O2 := hide o2; have B2 := hide (HB1.out.trans (b2.mono HB1.out.size)); have B2' := hide b2; clear o2 b2) | fail)
    have k2 : BoxT 23 w2 w.heap.size #[.int .i64 kd, .int .i64 size, .int .i64 slide] := BoxT.below (t := 23) HK1.out B2'.out
    obtain ⟨k0, k1, k3⟩ := k2.cells3
    clear k2
    go_upto_region 5 with (first | (go_at_call 6; refine (HNW.out _).mono ?_; rintro e w3 ⟨s, fp, rfl, s3, f3, b3⟩; have S3 := hide s3; have F3 := hide f3; have B3 := hide b3; clear s3 f3 b3) | fail)
    have HLD := hide (Load_any S3.out ((O2.out.below B3.out).seg Pn.cs_len (by rw [rdP_len]; have := HCN.out; omega)) (fun g e h => by have h1 := F3.out g h; have h2 := O2.out.lt g e; omega) (fun x hx => ⟨rdP_ok l x hx, fun e => HSE.out e x hx⟩) (by rw [rdP_len]; have := HCN.out; omega))
    have hF3 : ∀ i, fp i → w.heap.size ≤ i := fun i hi => Nat.le_trans B2.out.size (F3.out i hi)
    have B23 := hide (B2.out.trans (B3.out.mono B2.out.size))
    have HV3 := hide (HV.out.below (B2'.out.trans (B3.out.mono B2'.out.size)))
    have HF := hide hF3
    have HFW : Hid (∀ i, fp i → W1.heap.size ≤ i) := fun i hi => Nat.le_trans B2'.out.size (F3.out i hi)
    have HZ3 : Hid (W1.heap.size ≤ w3.heap.size) := Nat.le_trans B2'.out.size B3.out.size
    clear hF3 HNW HRD S3 F3 B3 B2 B2' O2
    go_upto_region 6 with (first | (go_at_call 15; refine HLD.out.mono ?_; rintro e w4 ⟨rfl, fp', M', s4, f4, c4⟩; have S4 := hide s4; have F4 := hide f4; have C4 := hide c4; clear s4 f4 c4) | fail)
    have hM4 : M'.length ≤ 20000 := by
      have h1 := C4.out.1.len
      rw [rdP_len] at h1
      have := HCN.out
      omega
    have hB4 : Below w.heap.size w w4 := B23.out.trans (F4.out.below B23.out.size HF.out)
    have hV4 : BSeg W1.heap.size w4 vb vo cap l := HV3.out.below (F4.out.below HZ3.out HFW.out)
    have hZ4 : W1.heap.size ≤ w4.heap.size := Nat.le_trans HZ3.out F4.out.size
    have HVB : Hid (∀ x ∈ l, x < 256) := HV.out.2.2.2.1
    have hne1 : wrB (srt M') ≠ [] := fun e => by have := congrArg List.length e; rw [wrB_len] at this; simp at this
    have hne2 : l ≠ [] := fun e => by have := HH4.out; rw [e] at this; simp at this
    have hbl : (wrB (srt M')).length ≤ 140737488355328 := by rw [wrB_len, srt_len]; omega
    have HEQ : Hid (∀ (D : Bool), decide (wrB (srt M') = l) = D → ∀ w5 u, OwnL 5 1 u8cs w4.heap.size w5 u (wrB (srt M')) → Below w4.heap.size w4 w5 → Calls Tryz.prog 44 #[u, .slice (some ⟨vb, vo, none⟩) l.length cap] w5 fun e w' => e = .returned (.bool D) ∧ w' = w5) := fun D hD w5 u h1 h2 => by
      rw [← hD]
      exact Equal_any (h1.seg u8cs_len hbl) ((hV4.below (h2.mono hZ4)).seg (Nat.le_trans hZ4 h2.size) HLN.out) hne1 hne2 (wrB_byte _) HVB.out
    have HBY := hide (Bytes_any S4.out hM4)
    have HF4 : Hid (∀ i, fp' i → w.heap.size ≤ i) := fun i hi => by
      rcases F4.out.sub i hi with h | h
      · exact HF.out i h
      · exact Nat.le_trans B23.out.size h
    have B4 := hide hB4
    have V4 := hide hV4
    clear hB4 hV4 hM4 HLD HV3 F4 HF B23
    clear hne1 hne2 hbl hZ4
    have HWB : Hid (∀ w5, Below w4.heap.size w4 w5 → Below w.heap.size w w5) := fun w5 h5 => B4.out.trans (h5.mono B4.out.size)
    by_cases he : wrB (srt M') = l
    · have HQ := hide (HEQ.out true (decide_eq_true he))
      have HE := hide he
      clear HEQ he
      go_wp2_with (first | (go_at_call 18; refine HBY.out.mono ?_; rintro e w5 ⟨u5, rfl, o5, b5⟩; have HQ5 := hide (HQ.out w5 u5 o5 b5); have B5 := hide b5; clear o5 b5) | (go_at_call 44; refine HQ5.out.mono ?_; rintro e w6 ⟨rfl, rfl⟩) | fail)
      exact bodyPost_ret (v := .tuple #[.pointer (some ⟨s, 0, none⟩), .int .i64 0]) (by simp [results, Tryz.results17, go_sem]) rfl ⟨HWB.out _ B5.out, .inr ⟨HOK.out, s, fp', M', rfl, S4.out.below B5.out, HF4.out, C4.out, HE.out⟩⟩
    · have HQ := hide (HEQ.out false (decide_eq_false he))
      have HE := hide he
      clear HEQ he
      go_wp2_with (first | (go_at_call 18; refine HBY.out.mono ?_; rintro e w5 ⟨u5, rfl, o5, b5⟩; have HQ5 := hide (HQ.out w5 u5 o5 b5); have B5 := hide b5; clear o5 b5) | (go_at_call 44; refine HQ5.out.mono ?_; rintro e w6 ⟨rfl, rfl⟩) | fail)
      exact bodyPost_ret (v := .tuple #[.pointer none, .int .i64 120]) (by simp [results, Tryz.results17, go_sem]) rfl ⟨HWB.out _ B5.out, .inl ⟨rfl, .inr ⟨M', C4.out, HE.out⟩⟩⟩
  · have HRD := hide (read_no (h.below hb1) hn hok)
    obtain ⟨vo, vc, rfl⟩ : ∃ vo vc, v = .slice vo l.length vc := by obtain ⟨a, c, e, _⟩ := h; exact ⟨a, c, e⟩
    have HB1 := hide hb1
    have HOK := hide hok
    clear h hb1 hk1 hse hn hok
    go_enter Tryz.func17, Tryz.ntmps17
    go_upto_region 1 with fail
    rw [← hW1]
    clear hW1
    go_wp2_with (first | (go_at_call 43; refine HRD.out.mono ?_; rintro e w2 ⟨rfl, b2⟩; have B2 := hide b2; clear b2) | fail)
    exact bodyPost_ret (v := .tuple #[.pointer none, .int .i64 120]) (by simp [results, Tryz.results17, go_sem]) rfl ⟨HB1.out.trans (B2.out.mono HB1.out.size), .inl ⟨rfl, .inl HOK.out⟩⟩
end Go.Proofs.YtdoldohcimbdaaaGreat

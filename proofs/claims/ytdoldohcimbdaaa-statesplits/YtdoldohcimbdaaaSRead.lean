/-
  read: panes out of bytes.
-/
import Derived.Test.YtdoldohcimbdaaaSPane
import Derived.Laws.MakeOwn
import Derived.BigQuiet
namespace Go.Proofs.Ytdoldohcimbdaaa
open Go.RowKit

/-- Another thing at one place of a row of one's own. -/
theorem OwnL.setAt {α : Type} {t sz : Nat} {cs : α → List Value} (hcs : ∀ x, (cs x).length = sz) (hs : 0 < sz) {base : Nat} {w : World} {g n cap : Nat} {l : List α} (h : OwnL t sz cs base w (.slice (some ⟨g, 0, none⟩) n cap) l) {i : Nat} (hi : i < l.length) (x : α) : OwnL t sz cs base (w.setCells g (i * sz) (cs x)) (.slice (some ⟨g, 0, none⟩) n cap) (l.set i x) := by
  rcases h.2 with ⟨e, _⟩ | ⟨g', cap', cur, e, h2, h3, h4, h5, h6, h7⟩
  · cases e
  · cases e
    have hb : BoxT t w g cur := h3
    have hfit : i * sz + sz ≤ cur.size := by
      have h8 : (i + 1) * sz ≤ cap * sz := Nat.mul_le_mul_right _ (by omega)
      rw [Nat.succ_mul] at h8
      omega
    refine ⟨flat_size hcs _, .inr ⟨g, cap, setL cur (i * sz) (cs x), by simp, h2, hb.setCells (cs x), by simpa using h4, h5, by rw [setL_size]; exact h6, ?_⟩⟩
    apply List.ext_getElem?
    intro q
    rw [List.getElem?_take, List.length_set]
    by_cases hq : q < l.length * sz
    · rw [if_pos hq, Array.getElem?_toList]
      have hq4 : q / sz < l.length := (Nat.div_lt_iff_lt_mul hs).2 hq
      have hm : q % sz < sz := Nat.mod_lt _ hs
      have hdm : q / sz * sz + q % sz = q := by rw [Nat.mul_comm]; exact Nat.div_add_mod q sz
      by_cases hqi : q / sz = i
      · have hx : (l.set i x)[q / sz]? = some x := by rw [hqi, List.getElem?_set_self hi]
        obtain ⟨u, hu⟩ := get_of_lt (show q % sz < (cs x).length by rw [hcs]; exact hm)
        have h9 := flat_get hcs _ (q / sz) (q % sz) _ u hx hu
        rw [hdm] at h9
        rw [h9]
        have h10 := setL_in (cs x) cur (i * sz) (q % sz) u (by rw [hcs]; exact hfit) hu
        rw [← hqi, hdm, hqi] at h10
        exact h10
      · obtain ⟨y, hy⟩ := get_of_lt hq4
        have hx : (l.set i x)[q / sz]? = some y := by rw [List.getElem?_set_ne (fun e => hqi e.symm)]; exact hy
        obtain ⟨u, hu⟩ := get_of_lt (show q % sz < (cs y).length by rw [hcs]; exact hm)
        have h9 := flat_get hcs _ (q / sz) (q % sz) _ u hx hu
        rw [hdm] at h9
        have hout : q < i * sz ∨ i * sz + (cs x).length ≤ q := by
          rw [hcs]
          rcases Nat.lt_or_gt_of_ne hqi with hlt | hgt
          · have : (q / sz + 1) * sz ≤ i * sz := Nat.mul_le_mul_right _ hlt
            rw [Nat.succ_mul] at this; omega
          · have : (i + 1) * sz ≤ q / sz * sz := Nat.mul_le_mul_right _ hgt
            rw [Nat.succ_mul] at this; omega
        rw [h9, setL_out _ _ _ _ hout]
        have h8 := flat_get hcs l (q / sz) (q % sz) y u hy hu
        rw [← h7, List.getElem?_take] at h8
        split at h8
        · rw [hdm] at h8; simpa using h8
        · cases h8
    · rw [if_neg hq, List.getElem?_eq_none (by rw [flat_size hcs, List.length_set]; omega)]
def rdN (l : List Nat) : Nat := nOf (l.take 4)
def rdOk (l : List Nat) : Prop := 4 ≤ l.length ∧ l.length - 4 = rdN l * 32
def rdP (l : List Nat) : List Pn := (List.range (rdN l)).map fun i => pOf ((l.drop 4).drop (i * 32))
def P0 : Pn := ⟨0, 0, 0, 0⟩
theorem rdP_len (l : List Nat) : (rdP l).length = rdN l := by simp [rdP]
theorem flat_P0 (n : Nat) : (List.replicate n P0).flatMap Pn.cs = List.replicate (n * 4) (.int .i64 0) := by
  induction n with
  | zero => rfl
  | succ n ih => rw [List.replicate_succ, List.flatMap_cons, ih, Nat.succ_mul, Nat.add_comm (n * 4), ← List.replicate_append_replicate]; rfl
theorem made_P0 (n : Nat) : (madeCells (Value.agg #[.int .i64 0, .int .i64 0, .int .i64 0, .int .i64 0]).cells (n * 4)).toList = List.replicate (n * 4) (.int .i64 0) := by
  apply List.ext_getElem
  · simp [size_madeCells]
  · intro i h1 h2
    have h4 : i % 4 = 0 ∨ i % 4 = 1 ∨ i % 4 = 2 ∨ i % 4 = 3 := by omega
    rcases h4 with h4 | h4 | h4 | h4 <;> simp [madeCells, Value.cells, h4]
theorem mkPn (w : World) (n : Nat) (hn : n ≤ 1000000) : ∃ w1, (Instr.makeSlice 44 (.int .u64 (n : Int)) (.int .u64 (n : Int))).run Try.prog w = .ok (.slice (some ⟨w.heap.size, 0, none⟩) n n) w1 ∧ OwnL 43 4 Pn.cs w.heap.size w1 (.slice (some ⟨w.heap.size, 0, none⟩) n n) (List.replicate n P0) ∧ Below w.heap.size w w1 := by
  obtain ⟨i0, hi, hz0, hz1, hz2⟩ := info_parts Try.infoPn
  have := run_make (P := Try.prog) w 44 43 i0 _ (by kernel_rfl) hi hz0 .u64 .u64 (n : Int) (n : Int) (by omega) (Int.le_refl _) (by rw [hz2]; omega) (by omega)
  rw [hz1, Int.toNat_natCast] at this
  refine ⟨_, this, ⟨flat_size Pn.cs_len _, .inr ⟨w.heap.size, n, _, by simp, Nat.le_refl _, BoxT.new 43 w _, by simp, by unfold maxLen; omega, by rw [size_madeCells], ?_⟩⟩, (Below.refl _ _).alloc (Nat.le_refl _) _⟩
  rw [made_P0, flat_P0]
  simp
def RdPost (w : World) (l : List Nat) (e : Ending) (w' : World) : Prop := Below w.heap.size w w' ∧ ((¬ rdOk l ∧ e = .returned (.tuple #[.slice none 0 0, .bool false])) ∨ (rdOk l ∧ ∃ u, e = .returned (.tuple #[u, .bool true]) ∧ OwnL 43 4 Pn.cs w.heap.size w' u (rdP l)))
theorem read_short (w : World) (ao : Option Addr) (cap : Nat) (l : List Nat) (h : l.length < 4) : Calls Try.prog 47 #[.slice ao l.length cap] w (RdPost w l) := by
  have h0 : (l.length : Int) < 4 := by omega
  have HN : Hid (¬ rdOk l) := fun e => by have := e.1; omega
  go_enter Try.func47, Try.ntmps47
  go_wp2_with fail
  exact bodyPost_ret (v := .tuple #[.slice none 0 0, .bool false]) (by simp [results, Try.results47, go_sem]) rfl ⟨Below.refl _ _, .inl ⟨HN.out, rfl⟩⟩
def rdI (l : List Nat) (i : Nat) : List Pn := (rdP l).take i ++ List.replicate (rdN l - i) P0
theorem rdI_len (l : List Nat) (i : Nat) (h : i ≤ rdN l) : (rdI l i).length = rdN l := by simp [rdI, rdP_len]; omega
theorem rdI_step (l : List Nat) (i : Nat) (h : i < rdN l) : (rdI l i).set i (pOf ((l.drop 4).drop (i * 32))) = rdI l (i + 1) := by
  have hl : i < (rdP l).length := by rw [rdP_len]; exact h
  have e : (rdP l)[i] = pOf ((l.drop 4).drop (i * 32)) := by simp [rdP]
  unfold rdI
  rw [List.set_append_right _ _ (by simp; omega), List.take_succ_eq_append_getElem hl, e, List.append_assoc]
  congr 1
  rw [List.length_take, Nat.min_eq_left (Nat.le_of_lt hl), Nat.sub_self, show rdN l - i = (rdN l - (i + 1)) + 1 by omega, List.replicate_succ]
  rfl
theorem BSeg.from {B : Nat} {w : World} {b off cap : Nat} {l : List Nat} (h : BSeg B w b off cap l) {j : Nat} (hj : j ≤ l.length) : BSeg B w b (off + j) (cap - j) (l.drop j) := by
  refine ⟨h.1, by rw [List.length_drop]; have := h.2.1; omega, by have := h.2.2.1; omega, fun x hx => h.2.2.2.1 x (List.mem_of_mem_drop hx), fun i x hx => ?_⟩
  rw [List.getElem?_drop] at hx
  rw [Nat.add_assoc]
  exact h.2.2.2.2 _ x hx
theorem BSeg.head {B : Nat} {w : World} {b off cap : Nat} {l : List Nat} (h : BSeg B w b off cap l) (hB : B ≤ w.heap.size) (hj : 4 ≤ l.length) : LSeg 1 u8cs w.heap.size w (.slice (some ⟨b, off, none⟩) 4 cap) (l.take 4) := by
  have hl : (l.take 4).length = 4 := by rw [List.length_take]; omega
  refine ⟨some ⟨b, off, none⟩, cap, by rw [hl], by rw [hl]; omega, .inr ⟨b, off, rfl, Nat.lt_of_lt_of_le h.1 hB, fun i x hx q u hu => ?_⟩⟩
  rw [List.getElem?_take] at hx
  split at hx
  · have h1 := h.2.2.2.2 _ x hx
    match q, hu with
    | 0, hu =>
      simp [u8cs] at hu
      subst hu
      simp at *
      exact h1
  · cases hx
theorem BSeg.mono {B B' : Nat} {w : World} {b off cap : Nat} {l : List Nat} (h : BSeg B w b off cap l) (hB : B ≤ B') : BSeg B' w b off cap l := ⟨Nat.lt_of_lt_of_le h.1 hB, h.2⟩
set_option maxHeartbeats 4000000 in
set_option maxRecDepth 100000 in
theorem read_any {w : World} {b off cap : Nat} {l : List Nat} (h : BSeg w.heap.size w b off cap l) (h4 : 4 ≤ l.length) (hn : l.length ≤ 640000) : Calls Try.prog 47 #[.slice (some ⟨b, off, none⟩) l.length cap] w (RdPost w l) := by
  have HN := hide (fun (w1 : World) (hb1 : Below w.heap.size w w1) => numberOf_any ((h.below hb1).head hb1.size h4) (fun x hx => h.2.2.2.1 x (List.mem_of_mem_take hx)) (by rw [List.length_take]; omega))
  have hlt : rdN l < 4294967296 := by
    have h1 := nOf_lt (l.take 4) (fun x hx => h.2.2.2.1 x (List.mem_of_mem_take hx))
    rw [List.length_take, Nat.min_eq_left h4] at h1
    exact h1
  rw [show nOf (l.take 4) = rdN l from rfl] at HN
  have HS := hide h
  have hcap := h.2.1
  have hcm := h.2.2.1
  obtain ⟨LL, hLL⟩ : ∃ LL, LL = l.length := ⟨_, rfl⟩
  obtain ⟨C, hC⟩ : ∃ C, C = rdN l := ⟨_, rfl⟩
  rw [← hC] at HN
  have h40 : ¬ (LL : Int) < 4 := by omega
  have h41 : (4 : Int) ≤ LL := by omega
  have hcp4 : 4 ≤ cap := by omega
  have hcpL : LL ≤ cap := by omega
  have hi1 : (4 : Int) ≤ (cap : Int) := by omega
  have hi2 : ¬ ((cap : Int) < 4) := by omega
  have hi3 : (LL : Int) ≤ (cap : Int) := by omega
  have hi4 : ¬ ((cap : Int) < (LL : Int)) := by omega
  have hi5 : ¬ (cap < 4) := by omega
  have hi6 : ¬ (LL < 4) := by omega
  have hub : IntKind.u64.wrap ((LL : Int) - 4) = (LL : Int) - 4 := by rw [IntKind.wrap_u64]; omega
  have hum : IntKind.u64.wrap ((C : Int) * 32) = (C : Int) * 32 := by rw [IntKind.wrap_u64]; omega
  rw [← hLL]
  have HLL := hide hLL
  have HC := hide hC
  clear h hLL hC
  by_cases hok : LL - 4 = C * 32
  · have hb : ((LL : Int) - 4 == (C : Int) * 32) = true := by rw [beq_iff_eq]; omega
    have HO : Hid (rdOk l) := ⟨h4, by rw [← HLL.out, ← HC.out]; exact hok⟩
    have hC2 : C ≤ 20000 := by have := HLL.out; omega
    by_cases hc4 : cap = 4
    · obtain rfl : C = 0 := by omega
      obtain rfl : LL = 4 := by omega
      subst hc4
      have HP : Hid (rdP l = []) := (show _ = _ by unfold rdP; rw [← HC.out]; rfl)
      have hz : rdN l = 0 := HC.out.symm
      go_enter Try.func47, Try.ntmps47
      go_upto_region 3 with fail
      go_quiet (first | (exact Calls.quiet_of_same (HN.out _ (below_drewN (Below.refl _ _) _))) | fail)
      obtain ⟨W0, hW0⟩ : ∃ W0, W0 = w.drewN nq := ⟨_, rfl⟩
      rw [← hW0]
      have hZ0 : W0.heap.size = w.heap.size := by rw [hW0]; simp
      have HB0 : Hid (Below w.heap.size w W0) := by rw [hW0]; exact below_drewN (Below.refl _ _) _
      obtain ⟨w1, hr1, o1, b1⟩ := mkPn W0 0 (by omega)
      rw [hZ0] at hr1 o1 b1
      have O1 := hide o1
      have B1 := hide (HB0.out.trans b1)
      clear hW0 o1 b1 HB0
      rw [show ((0 : Nat) : Int) = 0 from rfl] at hr1
      go_wp2_with fail
      go_loopw [26] (fun iv wr => iv = .int .i64 0 ∧ wr = w1) (fun _ _ => 0)
      case atStart => exact ⟨rfl, rfl⟩
      case round =>
        obtain ⟨rfl, rfl⟩ := hrel
        go_wp2_with fail
        exact bodyPost_ret (v := .tuple #[.slice (some ⟨w.heap.size, 0, none⟩) 0 0, .bool true]) (by simp [results, Try.results47, go_sem]) rfl ⟨B1.out, .inr ⟨HO.out, _, rfl, by rw [HP.out]; exact O1.out⟩⟩
    · have hc4b : (cap = 4) = False := by simpa using hc4
      have hc4c : (cap == 4) = false := by simpa using hc4
      have HW : Hid (∀ W, Below w.heap.size w W → BSeg w.heap.size W b (off + 4) (cap - 4) (l.drop 4)) := fun W hb => (HS.out.below hb).from h4
      have HDL : Hid ((l.drop 4).length = C * 32) := (show _ = _ by rw [List.length_drop, ← HLL.out]; exact hok)
      go_enter Try.func47, Try.ntmps47
      go_upto_region 3 with fail
      go_quiet (first | (exact Calls.quiet_of_same (HN.out _ (below_drewN (Below.refl _ _) _))) | fail)
      obtain ⟨W0, hW0⟩ : ∃ W0, W0 = w.drewN nq := ⟨_, rfl⟩
      rw [← hW0]
      have hZ0 : W0.heap.size = w.heap.size := by rw [hW0]; simp
      have HB0 : Hid (Below w.heap.size w W0) := by rw [hW0]; exact below_drewN (Below.refl _ _) _
      obtain ⟨w1, hr1, o1, b1⟩ := mkPn W0 C (by omega)
      rw [hZ0] at hr1 o1 b1
      have O1 : Hid (OwnL 43 4 Pn.cs w.heap.size w1 (.slice (some ⟨w.heap.size, 0, none⟩) C C) (rdI l 0)) := (show OwnL _ _ _ _ _ _ _ by unfold rdI; rw [← HC.out]; exact o1)
      have B1 := hide (HB0.out.trans b1)
      clear hW0 o1 b1 HB0
      go_wp2_with fail
      go_loopg [26] (C + 1) (fun gh iv wr => ∃ i : Nat, iv = .int .i64 (i : Int) ∧ i ≤ C ∧ C + 1 ≤ gh + i ∧ Hid (OwnL 43 4 Pn.cs w.heap.size wr (.slice (some ⟨w.heap.size, 0, none⟩) C C) (rdI l i)) ∧ Hid (Below w.heap.size w wr))
      case atStart => exact ⟨0, rfl, by omega, by omega, O1, B1⟩
      case round =>
        clear O1 B1
        obtain ⟨i, rfl, hi, hg, GO, GB⟩ := hrel
        obtain ⟨go, rfl⟩ : ∃ go, gk = go + 1 := ⟨gk - 1, by omega⟩
        by_cases hlt2 : i < C
        · have bt : (i : Int) < (C : Int) := by omega
          have hil : i * 32 + 32 ≤ C * 32 := by omega
          have hsz := GB.out.size
          have HPA := hide (paneOf_any (w := wr) (((HW.out wr GB.out).from (j := i * 32) (by rw [HDL.out]; omega)).mono hsz) (by rw [List.length_drop, HDL.out]; omega))
          rw [List.length_drop, HDL.out] at HPA
          have HPX : Hid ((rdI l i).set i (pOf ((l.drop 4).drop (i * 32))) = rdI l (i + 1)) := (show _ = _ from rdI_step l i (by rw [← HC.out]; exact hlt2))
          have HIL : Hid (i < (rdI l i).length) := (show _ < _ by rw [rdI_len l i (by rw [← HC.out]; omega), ← HC.out]; exact hlt2)
          generalize pOf ((l.drop 4).drop (i * 32)) = X at *
          obtain ⟨xk, xf, xt, xa⟩ := X
          have hci : i * 32 ≤ C * 32 := by omega
          have hcc : C * 32 ≤ cap - 4 := by omega
          have hcne : ¬ (i * 32 = cap - 4) := by omega
          rw [show Pn.val ⟨xk, xf, xt, xa⟩ = .agg #[.int .i64 xk, .int .i64 xf, .int .i64 xt, .int .i64 xa] from rfl] at HPA
          have HST : Hid (∀ w2, Below wr.heap.size wr w2 → (∀ j, j < 4 → ∃ u, w2.cell? ⟨w.heap.size, i * 4 + j, none⟩ = some u) ∧ (∀ j, w2.frozen? ⟨w.heap.size, j, none⟩ = false) ∧ OwnL 43 4 Pn.cs w.heap.size (w2.setCells w.heap.size (i * 4) (Pn.cs ⟨xk, xf, xt, xa⟩)) (.slice (some ⟨w.heap.size, 0, none⟩) C C) (rdI l (i + 1)) ∧ Below w.heap.size w (w2.setCells w.heap.size (i * 4) (Pn.cs ⟨xk, xf, xt, xa⟩))) := fun w2 hb2 => by
            have ho2 := GO.out.below hb2
            refine ⟨fun j hj => ?_, fun j => ?_, ?_, ?_⟩
            · rcases ho2.2 with ⟨e, _⟩ | ⟨g', cap', cur, e, q2, q3, q4, q5, q6, q7⟩
              · cases e
              · cases e
                have hb : BoxT 43 w2 w.heap.size cur := q3
                rw [hb.cellAt]
                exact ⟨_, Array.getElem?_eq_getElem (by rw [q6]; omega)⟩
            · rcases ho2.2 with ⟨e, _⟩ | ⟨g', cap', cur, e, q2, q3, q4, q5, q6, q7⟩
              · cases e
              · cases e
                have hb : BoxT 43 w2 w.heap.size cur := q3
                exact hb.free j
            · have h9 := ho2.setAt Pn.cs_len (by omega) HIL.out ⟨xk, xf, xt, xa⟩
              rw [HPX.out] at h9
              exact h9
            · exact (GB.out.trans (hb2.mono hsz)).grown (grown_setCells _ _ _ _) (by have := hb2.size; omega) (fun k e => by cases e; exact Nat.le_refl _)
          go_wp2_with (first | (go_at_call 60; refine HPA.out.mono ?_; rintro e w2 ⟨rfl, b2⟩; obtain ⟨hc, hf, O2, B2⟩ := HST.out w2 b2; obtain ⟨c0, hc0⟩ := hc 0 (by omega); obtain ⟨c1, hc1⟩ := hc 1 (by omega); obtain ⟨c2, hc2⟩ := hc 2 (by omega); obtain ⟨c3, hc3⟩ := hc 3 (by omega); have OO := hide O2; have BB := hide B2; clear O2 B2 hc b2; simp only [Nat.add_zero] at hc0) | fail)
          go_roundg go
          case rel => exact ⟨i + 1, by go_num, by omega, by omega, OO, BB⟩
          case measure => omega
        · obtain rfl : i = C := by omega
          have bt : ¬ ((i : Nat) : Int) < (i : Int) := by omega
          have HP : Hid (rdI l i = rdP l) := (show _ = _ by unfold rdI; rw [← HC.out, Nat.sub_self, List.take_of_length_le (by rw [rdP_len, ← HC.out]; omega)]; simp)
          go_wp2_with fail
          exact bodyPost_ret (v := .tuple #[.slice (some ⟨w.heap.size, 0, none⟩) i i, .bool true]) (by simp [results, Try.results47, go_sem]) rfl ⟨GB.out, .inr ⟨HO.out, _, rfl, by rw [← HP.out]; exact GO.out⟩⟩
  · have hb : ((LL : Int) - 4 == (C : Int) * 32) = false := by rw [beq_eq_false_iff_ne]; omega
    have HO : Hid (¬ rdOk l) := fun e => by have h1 := e.2; rw [← HLL.out, ← HC.out] at h1; exact hok h1
    by_cases hc4 : cap = 4
    · subst hc4
      go_enter Try.func47, Try.ntmps47
      go_upto_region 3 with fail
      go_quiet (first | (exact Calls.quiet_of_same (HN.out _ (below_drewN (Below.refl _ _) _))) | fail)
      go_wp2_with fail
      exact bodyPost_ret (v := .tuple #[.slice none 0 0, .bool false]) (by simp [results, Try.results47, go_sem]) rfl ⟨below_drewN (Below.refl _ _) _, .inl ⟨HO.out, rfl⟩⟩
    · have hc4b : (cap = 4) = False := by simpa using hc4
      have hc4c : (cap == 4) = false := by simpa using hc4
      go_enter Try.func47, Try.ntmps47
      go_upto_region 3 with fail
      go_quiet (first | (exact Calls.quiet_of_same (HN.out _ (below_drewN (Below.refl _ _) _))) | fail)
      go_wp2_with fail
      exact bodyPost_ret (v := .tuple #[.slice none 0 0, .bool false]) (by simp [results, Try.results47, go_sem]) rfl ⟨below_drewN (Below.refl _ _) _, .inl ⟨HO.out, rfl⟩⟩
end Go.Proofs.Ytdoldohcimbdaaa

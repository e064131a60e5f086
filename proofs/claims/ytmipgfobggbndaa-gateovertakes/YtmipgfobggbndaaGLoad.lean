/-
  Load.
-/
import Derived.Test.YtmipgfobggbndaaGTake
import Derived.Laws.IdiomCopy
namespace Go.Proofs.Ytmipgfobggbndaa
open Go.RowKit

def mn : Int := -9223372036854775808
/-- The marks behind a Load. -/
def ldM (n : Nat) (l : List Int) : List Int := l.take n ++ List.replicate (n - l.length) mn
def Gs.ld (s : Gs) (l : List Int) : Gs := { s with M := ldM s.M.length l, un := 0, cp := [] }
theorem ldM_len (n : Nat) (l : List Int) : (ldM n l).length = n := by simp [ldM]; omega
def preM (M : List Int) (i : Nat) : List Int := List.replicate i mn ++ M.drop i
theorem preM_len (M : List Int) (i : Nat) (h : i ≤ M.length) : (preM M i).length = M.length := by simp [preM]; omega
theorem preM_step (M : List Int) (i : Nat) (h : i < M.length) : (preM M i).set i mn = preM M (i + 1) := by
  unfold preM
  rw [List.set_append_right _ _ (by simp)]
  simp only [List.length_replicate, Nat.sub_self]
  rw [List.drop_eq_getElem_cons h, List.set_cons_zero, List.replicate_succ', List.append_assoc]
  rfl
theorem preM_end (M : List Int) : preM M M.length = List.replicate M.length mn := by simp [preM]
theorem ldM_nil (n : Nat) : ldM n [] = List.replicate n mn := by simp [ldM]
theorem ldM_setL (n : Nat) (l : List Int) : setL (i64s (List.replicate n mn)) 0 ((l.take n).map (Value.int .i64)) = i64s (ldM n l) := by
  apply Array.ext_getElem?
  intro i
  rw [i64s_get]
  by_cases hi : i < (l.take n).length
  · obtain ⟨x, hx⟩ := get_of_lt hi
    have h1 := setL_in ((l.take n).map (Value.int .i64)) (i64s (List.replicate n mn)) 0 i (.int .i64 x) (by simp [i64s]; omega) (by rw [List.getElem?_map, hx]; rfl)
    rw [Nat.zero_add] at h1
    rw [h1]
    unfold ldM
    rw [List.getElem?_append_left hi, hx]
    rfl
  · rw [setL_out _ _ _ _ (.inr (by simp at hi ⊢; omega)), i64s_get]
    unfold ldM
    rw [List.getElem?_append_right (by omega)]
    congr 1
    rw [List.getElem?_replicate, List.getElem?_replicate]
    simp at hi ⊢
    congr 1
    apply propext
    omega
theorem GX.grown_marks {w w' : World} {k mb cb : Nat} {mi : Int} {cv : Value} {s : Gs} (h : GX w k mb cb mi cv s) (hg : w.grownBy w' (some mb)) {M' : List Int} (hl : M'.length = s.M.length) (hm : BoxT 2 w' mb (i64s M')) : GX w' k mb cb mi cv { s with M := M' } :=
  { box := by have := h.box.grown hg h.nkm; rw [← hl] at this; exact this
    mx := hm
    cm := h.cm.grown hg h.nmc.symm
    cp := h.cp.back (fun g e => hg.block g (h.cp.lt g e) (fun e2 => (h.own e).2.1 (Option.some.inj e2)))
    len := h.len.trans hl.symm
    pos := by show 1 ≤ M'.length; rw [hl]; exact h.pos
    le := by show M'.length ≤ 64; rw [hl]; exact h.le
    mis := h.mis }
/-- copy of what is handed in onto fresh marks. -/
theorem copy_marks {w : World} {k mb cb : Nat} {mi : Int} {cv : Value} {s : Gs} {n : Nat} (h : GX w k mb cb mi cv { s with M := List.replicate n mn }) {B : Nat} {v : Value} {l : List Int} (hv : LSeg 1 i64cs B w v l) (ty : TypeId) :
    ∃ c w', (Builtin.copy_ #[28, 28] ty #[.slice (some ⟨mb, 0, none⟩) n n, v]).run Try.prog w = .ok (.int .i64 c) w' ∧ GX w' k mb cb mi cv { s with M := ldM n l } ∧ w.grownBy w' (some mb) := by
  obtain ⟨ao, cap, rfl, hcap, hs⟩ := hv
  rcases hs with rfl | ⟨b, off, rfl, hb, hc⟩
  · refine ⟨0, w, run_copy_none w 28 28 ty 2 _ _ n n 0 cap Try.underlying28 (by kernel_rfl) (by simp), by rw [ldM_nil]; exact h, grownBy_refl _ _⟩
  · have hmx := h.mx
    simp only at hmx
    have hrun := run_copy_cells (P := Try.prog) w 28 28 ty 2 mb 0 n n ⟨b, off, none⟩ l.length cap ((l.take n).map (Value.int .i64)) Try.underlying28 (by kernel_rfl) (by simp [Nat.min_comm]) (fun j u hj => by
      rw [List.getElem?_map] at hj
      cases hq : (l.take n)[j]? with
      | none => rw [hq] at hj; cases hj
      | some x =>
        rw [hq] at hj
        have hu : u = .int .i64 x := (Option.some.inj hj).symm
        subst hu
        have hx : l[j]? = some x := by
          rw [List.getElem?_take] at hq
          split at hq
          · exact hq
          · cases hq
        rw [add_plain2]
        simpa using hc j x hx 0 _ rfl) (fun j hj => by
      have : j < (i64s (List.replicate n mn)).size := by simp [i64s] at hj ⊢; omega
      rw [hmx.cellAt, Nat.zero_add, Array.getElem?_eq_getElem this]; rfl) (fun j _ => hmx.free _) (fun u hu => by
      obtain ⟨x, _, rfl⟩ := List.mem_map.1 hu
      rfl)
    have hg := grown_setCells mb ((l.take n).map (Value.int .i64)) w 0
    have hm := hmx.setCells (j := 0) ((l.take n).map (Value.int .i64))
    rw [ldM_setL] at hm
    exact ⟨_, _, hrun, h.grown_marks hg (by show (ldM n l).length = (List.replicate n mn).length; rw [ldM_len]; simp) hm, hg⟩
set_option maxHeartbeats 2000000 in
set_option maxRecDepth 100000 in
theorem Load_any {w : World} {k : Nat} {fp : Nat → Prop} {s : Gs} (h : GA w k fp s) {B : Nat} {v : Value} {l : List Int} (hv : LSeg 1 i64cs B w v l) (hB : ∀ i, fp i → B ≤ i) (hBw : B ≤ w.heap.size) : Calls Try.prog 11 #[.pointer (some ⟨k, 0, none⟩), v] w fun e w' => e = .returned (.tuple #[]) ∧ ∃ fp', GA w' k fp' (s.ld l) ∧ FT fp fp' w w' := by
  obtain ⟨mb, cb, mi, cv, X, hf⟩ := h
  have hle := X.le
  have hpos := X.pos
  obtain ⟨c0, -, -, -, -, -, -⟩ := X.cells
  have hmf : fp mb := (hf mb).2 (.inr (.inl rfl))
  have HV := hide hv
  have HF := hide hf
  have HB := hide hB
  have HP0 : Hid (GX w k mb cb mi cv { s with M := preM s.M 0 }) := X
  clear X hv hf hB
  go_enter Try.func11, Try.ntmps11
  go_wp2_with fail
  generalize hn : s.M.length = n at *
  go_loopg [4, 10] (n + 1) (fun gh _ iv wr => ∃ i : Nat, iv = .int .i64 (i : Int) ∧ i ≤ n ∧ n + 1 ≤ gh + i ∧ Hid (GX wr k mb cb mi cv { s with M := preM s.M i }) ∧ Hid (FT fp fp w wr))
  case atStart => exact ⟨0, rfl, by omega, by omega, HP0, FT.refl _ _⟩
  case round =>
    obtain ⟨i, rfl, hi, hg, HP, HT⟩ := hrel
    obtain ⟨go, rfl⟩ : ∃ go, gk = go + 1 := ⟨gk - 1, by omega⟩
    have hln : (preM s.M i).length = n := by rw [preM_len _ _ (by omega)]; exact hn
    obtain ⟨d0, -, -, -, -, -, -⟩ := HP.out.cells
    rw [hln] at d0
    by_cases hlt : i < n
    · have bt : (i : Int) < (n : Int) := by omega
      obtain ⟨y, hy⟩ := get_of_lt (show i < (preM s.M i).length by omega)
      have e5 := HP.out.mark hy
      have fr := HP.out.mx.free
      have HN : Hid (GX (wr.setCell ⟨mb, i, none⟩ (.int .i64 mn)) k mb cb mi cv { s with M := preM s.M (i + 1) }) := by
        have := HP.out.setMark i mn
        simp only at this
        rw [preM_step _ _ (by omega)] at this
        exact this
      have HTN := hide (HT.out.trans (FT.set wr hmf i (.int .i64 mn)))
      unfold mn at HN HTN
      clear hy hln
      go_wp2_with fail
      go_roundg go
      case rel => exact ⟨i + 1, by go_num, by omega, by omega, HN, HTN.out⟩
      case measure => omega
    · have bt : ¬ (i : Int) < (n : Int) := by omega
      obtain rfl : i = n := by omega
      have HE : Hid (GX wr k mb cb mi cv { s with M := List.replicate i mn }) := by
        have := HP.out
        rw [← hn, preM_end, hn] at this
        exact this
      have hv2 := HV.out.below (HT.out.below hBw HB.out)
      obtain ⟨va, vc, rfl⟩ := HV.out.shape
      obtain ⟨cc, W2, hcp, X2, G2⟩ := copy_marks HE.out hv2 3
      have g2 : GA W2 k fp { s with M := ldM i l } := ⟨mb, cb, mi, cv, X2, HF.out⟩
      have HGU := hide (giveUp_any g2)
      have HT2 := hide (HT.out.trans (FT.of_grown G2 hmf))
      clear X2 G2 g2 hv2 HE HV HP HT HP0 HB HF
      go_wp2_with (go_at_call 28; refine HGU.out.mono ?_; rintro e w3 ⟨rfl, fp3, g3, t3⟩)
      go_end0
      refine ⟨rfl, fp3, ?_, HT2.out.trans t3⟩
      unfold Gs.ld
      rw [hn]
      exact g3
theorem madeI (w : World) (n : Nat) (hn : n ≤ 1000000) : (Instr.makeSlice 28 (.int .i64 (n : Int)) (.int .i64 (n : Int))).run Try.prog w = .ok (.slice (some ⟨w.heap.size, 0, none⟩) n n) (w.alloc (.cells (i64s (List.replicate n 0)) 2)) := by
  obtain ⟨i0, hi, hz0, hz1, hz2⟩ := info_parts Try.info2'
  have := run_make (P := Try.prog) w 28 2 i0 (.int .i64 0) Try.underlying28 hi hz0 .i64 .i64 (n : Int) (n : Int) (by omega) (Int.le_refl _) (by rw [hz2]; omega) (by omega)
  rw [hz1, Nat.mul_one, Int.toNat_natCast] at this
  rw [this]
  congr 3
  apply Array.ext_getElem?
  intro i
  rw [i64s_get]
  by_cases h : i < n
  · simp [madeCells, Value.cells, h, Nat.mod_one]
  · rw [Array.getElem?_eq_none (by rw [size_madeCells]; omega), List.getElem?_eq_none (by simp; omega)]; rfl
theorem Try.info4' : (Try.prog.info? 4).map (fun i => (i.zero, i.size, i.bytes)) = some (some (.bool false), 1, 1) := by kernel_rfl
theorem madeB (w : World) (n : Nat) (hn : n ≤ 1000000) : (Instr.makeSlice 30 (.int .i64 (n : Int)) (.int .i64 (n : Int))).run Try.prog w = .ok (.slice (some ⟨w.heap.size, 0, none⟩) n n) (w.alloc (.cells (bls (List.replicate n false)) 4)) := by
  obtain ⟨i0, hi, hz0, hz1, hz2⟩ := info_parts Try.info4'
  have := run_make (P := Try.prog) w 30 4 i0 (.bool false) Try.underlying30 hi hz0 .i64 .i64 (n : Int) (n : Int) (by omega) (Int.le_refl _) (by rw [hz2]; omega) (by omega)
  rw [hz1, Nat.mul_one, Int.toNat_natCast] at this
  rw [this]
  congr 3
  apply Array.ext_getElem?
  intro i
  rw [bls_get]
  by_cases h : i < n
  · simp [madeCells, Value.cells, h, Nat.mod_one]
  · rw [Array.getElem?_eq_none (by rw [size_madeCells]; omega), List.getElem?_eq_none (by simp; omega)]; rfl
/-- A new gate. -/
def Gs.new (n : Nat) : Gs := { M := List.replicate n mn, la := 0, un := 0, ov := false, co := List.replicate n false, cp := [] }
def chans (c : Int) : Nat := if c < 1 then 1 else if 64 < c then 64 else c.toNat
end Go.Proofs.Ytmipgfobggbndaa

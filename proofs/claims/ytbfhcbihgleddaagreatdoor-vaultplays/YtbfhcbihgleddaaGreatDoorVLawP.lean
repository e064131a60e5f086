/-
  The law VaultPlays, walked.
-/
import Derived.Test.YtbfhcbihgleddaaGreatDoorVPlayD
import Derived.Test.YtbfhcbihgleddaaGreatDoorM39
import Derived.Test.YtbfhcbihgleddaaGreatDoorM34
namespace Go.Proofs.YtbfhcbihgleddaaGreatDoor
open Go.RowKit

theorem StOk.far {B : Nat} {w w' : World} {t : StV} (h : StOk B w t) (hb : Below B w w') (hB : B ≤ w'.heap.size) : StOk w'.heap.size w' t := by
  have h' := h.below hb
  exact ⟨⟨h'.sn.row.mono hB, fun x hx => (h'.sn.each x hx).mono hB, h'.sn.pos⟩, h'.kl.mono hB, (h'.bl.seg hB).segB, h'.by_, h'.wf⟩
theorem StsIn.far {w w' : World} {v : Value} {l : List StV} (h : StsIn w.heap.size w v l) (hb : Below w.heap.size w w') : StsIn w'.heap.size w' v l :=
  ⟨(h.row.below hb).mono hb.size, fun t ht => (h.each t ht).far hb hb.size⟩
theorem LS.step {w0 w : World} {B k b kp m : Nat} (h : LS w0 w B k b kp m) : LS w0 w B k b kp (m + 1) := by
  obtain ⟨V, nf, p, X, os, vt, vw, th, la, lc, top, h, b1, b2, b3, b4⟩ := h
  exact LS.mk1 h (by omega) (by omega) (by omega) (by omega)
theorem LS.below {w0 w w' : World} {B k b kp m : Nat} (h : LS w0 w B k b kp m) (hb : Below w.heap.size w w') : LS w0 w' B k b kp m := by
  obtain ⟨V, nf, p, X, os, vt, vw, th, la, lc, top, h, b1, b2, b3, b4⟩ := h
  exact LS.mk1 (h.below hb) (by omega) (by omega) (by omega) (by omega)
theorem LS.since {w0 w : World} {B k b kp m : Nat} (h : LS w0 w B k b kp m) : Below w0.heap.size w0 w := by
  obtain ⟨V, nf, p, X, os, vt, vw, th, la, lc, top, h, b1, b2, b3, b4⟩ := h
  exact h.at_.st.since
theorem LS.fine {w0 w : World} {B k b kp m : Nat} (h : LS w0 w B k b kp m) : w.cell? ⟨B, 8, none⟩ = some (.bool true) := by
  obtain ⟨V, nf, p, X, os, vt, vw, th, la, lc, top, h, b1, b2, b3, b4⟩ := h
  exact (wld_cells h.box).2.2.2.2.2.2.2.2
theorem LS.begin {w w' : World} {B k V b kp : Nat} {vt vw : Value} (hB : BoxT 52 w' B (wld k (.pointer (some ⟨V, 0, none⟩)) (kp : Int) (.slice none 0 0) (.slice none 0 0) (.int .u64 0) (.bool false) (.bool false) (.bool true))) (hv : VAt w w' V k b 0 ⟨[], 1048576, -1⟩ (kp : Int) vt vw [] []) (hw : w.heap.size ≤ B) : LS w w' B k b kp 0 := by
  have h : LW w w' B k V b 0 kp ⟨[], 1048576, -1⟩ [] [] vt vw [] none 0 0 := {
    box := hB
    at_ := hv
    has := ⟨List.Perm.refl _, rfl, List.nodup_nil⟩
    forn := (fun f hf => by cases hf)
    is := rfl
    srt := (fun i j x y _ hx => by simp at hx)
    ok := (fun o ho => by cases ho)
    rise := List.Pairwise.nil
    top := (fun o ho => by cases ho)
    row := .inl ⟨rfl, rfl⟩
    wB := hw }
  exact LS.mk1 h (Nat.zero_le _) (Nat.le_refl _) (Nat.zero_le _) (Nat.le_refl _)
theorem wst_mem {l : List StV} {t : StV} (h : t ∈ l) : wSt t ≤ (l.map wSt).sum := by
  induction l with
  | nil => cases h
  | cons a r ih =>
    simp only [List.map_cons, List.sum_cons]
    rcases List.mem_cons.1 h with rfl | h
    · omega
    · have := ih h; omega
set_option maxHeartbeats 16000000 in
set_option maxRecDepth 100000 in
theorem VaultPlays_walk (w : World) (hg : Glob w) (keep : Int) (ao : Option Addr) (cap : Nat) (l : List StV) (hS : StsIn w.heap.size w (.slice ao l.length cap) l) (hlo : ∀ t ∈ l, ∀ x ∈ t.sn, x.s.ok) :
    Calls Tryz.prog 4 #[.int .i64 keep, .slice ao l.length cap] w fun e w' => e = .returned (.bool true) ∧ Below w.heap.size w w' := by
  have hkn := hide (known_any w hg)
  have HS := hide hS
  have HLO := hide hlo
  obtain ⟨kp, hkp⟩ : ∃ kp : Nat, max (min keep 20) 1 = (kp : Int) := ⟨(max (min keep 20) 1).toNat, by omega⟩
  have hk1 : 1 ≤ kp := by omega
  have hk2 : kp ≤ 20 := by omega
  have HGL := hide (fun w' (hb : Below w.heap.size w w') => (hg.below hb hg.1 : Glob w'))
  clear hS hlo
  go_enter Tryz.func4, Tryz.ntmps4
  go_wp2_with (go_at_call 9; refine hkn.out.mono ?_; rintro e w1 ⟨rfl, bb1⟩; have B1 := hide bb1; clear bb1 hkn)
  go_at_call 10
  refine (light_any (HS.out.far B1.out)).mono ?_
  rintro e w2 ⟨hlt, bb2⟩
  have B2 := hide (B1.out.trans (bb2.mono B1.out.size))
  clear bb2
  obtain ⟨lb, rfl, hlb⟩ := hlt
  cases lb
  · clear hlb
    as_aux_lemma =>
    go_wp2
    go_ret
    exact ⟨rfl, B2.out⟩
  obtain ⟨hl80, hwt⟩ := hlb rfl
  have HBG := hide (begun_any w2 (HGL.out w2 B2.out) (min keep 20))
  rw [hkp] at HBG
  have HS2 := hide (HS.out.far B2.out)
  have HG2 := hide (HGL.out w2 B2.out)
  clear hlb HS HGL hg
  as_aux_lemma =>
  go_wp2_with (go_at_call 17; refine HBG.out.mono ?_; rintro e w3 ⟨B, k, V, b, vt, vw, rfl, hB, hbx, hv, bb3⟩; have L3 := hide (LS.begin hbx hv hB); clear hbx hv bb3 hB HBG)
  go_loopw [6] (fun iv wr => ∃ i : Nat, i ≤ l.length ∧ iv = .int .i64 (i : Int) ∧ Hid (LS w2 wr B k b kp i)) (fun iv _ => l.length - (intOf iv).toNat)
  case atStart => exact ⟨0, Nat.zero_le _, rfl, L3.out⟩
  case round =>
    obtain ⟨i, hi, rfl, LI⟩ := hrel
    have c8 := LI.out.fine
    by_cases hlt : i < l.length
    rotate_left
    · have hlti : ¬ (i : Int) < (l.length : Int) := by omega
      have HF := hide (B2.out.trans (LI.out.since.mono B2.out.size))
      as_aux_lemma =>
      go_wp2
      go_ret
      exact ⟨rfl, HF.out⟩
    have hlti : (i : Int) < (l.length : Int) := by omega
    obtain ⟨t, ht⟩ : ∃ t, l[i]? = some t := ⟨_, List.getElem?_eq_getElem hlt⟩
    have hmem : t ∈ l := List.mem_of_getElem? ht
    obtain ⟨sb, so, hla, -, hcl⟩ := (HS2.out.row.below LI.out.since).at_ ht
    subst hla
    have r0 : wr.cell? ⟨sb, so + i * 5, none⟩ = some (.int .i64 t.wh) := by simpa using hcl i t ht 0 _ rfl
    have r1 : wr.cell? ⟨sb, so + i * 5 + 1, none⟩ = some (.int .i64 t.n) := by simpa using hcl i t ht 1 _ rfl
    have r2 : wr.cell? ⟨sb, so + i * 5 + 2, none⟩ = some (.slice t.sa t.sn.length t.sc) := by simpa using hcl i t ht 2 _ rfl
    have r3 : wr.cell? ⟨sb, so + i * 5 + 3, none⟩ = some (.slice t.ka t.kl.length t.kc) := by simpa using hcl i t ht 3 _ rfl
    have r4 : wr.cell? ⟨sb, so + i * 5 + 4, none⟩ = some (.slice t.ba t.bl.length t.bc) := by simpa using hcl i t ht 4 _ rfl
    have LI1 := hide LI.out.step
    have hww := Nat.le_trans (wst_mem hmem) hwt
    have HDO : Hid (t.wh ≠ 5 → t.wh ≠ 7 → Calls Tryz.prog 18 #[.pointer (some ⟨B, 0, none⟩), .agg #[.int .i64 t.wh, .int .i64 t.n, .slice t.sa t.sn.length t.sc, .slice t.ka t.kl.length t.kc, .slice t.ba t.bl.length t.bc]] wr fun e w' => e = .returned (.tuple #[]) ∧ LS w2 w' B k b kp (i + 1)) := fun h5 h7 => does_w LI.out HG2.out (by omega) (by omega) hk1 t (HS2.out.each t hmem) (HLO.out t hmem) hww h5 h7
    clear hcl ht hmem hww
    by_cases h5 : t.wh = 5
    · have q5 : (t.wh != 5) = false := by simp [h5]
      have q5b : (t.wh == 5) = true := by simp [h5]
      clear HDO r1 r2 r3 r4
      as_aux_lemma =>
      go_wp2_with fail
      go_roundw
      case rel => exact ⟨i + 1, by omega, by go_num, LI1.out⟩
      case measure => simp [intOf]; omega
    have q5 : (t.wh != 5) = true := by simp [h5]
    have q5b : (t.wh == 5) = false := by simp [h5]
    by_cases h7 : t.wh = 7
    · have q7 : (t.wh != 7) = false := by simp [h7]
      have q7b : (t.wh == 7) = true := by simp [h7]
      clear HDO r1 r2 r3 r4
      as_aux_lemma =>
      go_wp2_with fail
      go_roundw
      case rel => exact ⟨i + 1, by omega, by go_num, LI1.out⟩
      case measure => simp [intOf]; omega
    have q7 : (t.wh != 7) = true := by simp [h7]
    have q7b : (t.wh == 7) = false := by simp [h7]
    have HD := hide (HDO.out h5 h7)
    clear HDO
    as_aux_lemma =>
    go_wp2_with (go_at_call 18; refine HD.out.mono ?_; rintro e w6 ⟨rfl, l6⟩; have L6 := hide l6; clear l6)
    go_roundw
    case rel => exact ⟨i + 1, by omega, by go_num, L6.out⟩
    case measure => simp [intOf]; omega
end Go.Proofs.YtbfhcbihgleddaaGreatDoor

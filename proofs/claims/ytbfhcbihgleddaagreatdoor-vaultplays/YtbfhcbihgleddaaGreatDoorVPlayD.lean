/-
  A step of the law in a script without crashes.
-/
import Derived.Test.YtbfhcbihgleddaaGreatDoorVPlayS
import Derived.Test.YtbfhcbihgleddaaGreatDoorVPlayX
import Derived.Test.YtbfhcbihgleddaaGreatDoorM39
import Derived.Test.YtbfhcbihgleddaaGreatDoorM34
namespace Go.Proofs.YtbfhcbihgleddaaGreatDoor
open Go.RowKit

section
variable {w0 w w' : World} {B k V b nf kp : Nat} {p : Pd} {X : List Fi} {os : List OnV} {vt vw : Value} {th : List SpV} {la : Option Addr} {lc top : Nat}
theorem LW.disk {p' : Pd} {nf' : Nat} {X' : List Fi} (h : LW w0 w B k V b nf kp p X os vt vw th la lc top) (ht : Turned k b w w') (hs : St w0 w' k b nf' p') (hh : Has p' (X' ++ FX (os.map OnV.sp))) (hf : ∀ f ∈ X', Forn f.n) : LW w0 w' B k V b nf' kp p' X' os vt vw th la lc top :=
  { h with box := box_kb h.at_.st ht h.box (by decide), at_ := h.at_.disk ht hs, has := hh, forn := hf, row := h.row.kbd h.at_.st ht }
theorem LW.dead7 (h : LW w0 w B k V b nf kp p X os vt vw th la lc top) : LW w0 (w.setCell ⟨B, 7, none⟩ (.bool false)) B k V b nf kp p X os vt vw th la lc top := by
  have hT : Turned B B w (w.setCell ⟨B, 7, none⟩ (.bool false)) := Turned.set B B _ 7 _
  exact { h with box := by simpa [wld] using h.box.set 7 (.bool false), at_ := h.at_.law h.box h.wB hT (by decide) (by decide) (by decide) (by decide) (by decide) (by decide), row := h.row.boxed h.box hT (by decide) }
theorem LW.room (h : LW w0 w B k V b nf kp p X os vt vw th la lc top) (x : Int) (hx : (Lit.int .i64 x).wf = true) :
    Calls Tryz.prog 19 #[.pointer (some ⟨k, 0, none⟩), .int .i64 x] w fun e w' => e = .returned (.tuple #[]) ∧ LW w0 w' B k V b nf kp { p with room := max x 0 } X os vt vw th la lc top ∧ Turned k b w w' := by
  refine (Room_p h.at_.st.d x hx).mono ?_
  rintro e w' ⟨rfl, h2, h3⟩
  exact ⟨rfl, h.disk h3 ⟨h2, h.at_.st.s.step h3⟩ ⟨h.has.perm, h.has.left, h.has.nodup⟩ h.forn, h3⟩
theorem LW.write (h : LW w0 w B k V b nf kp p X os vt vw th la lc top) (hn : nf + 1 ≤ 1000000) (s : ByteArray) (hs : s.size ≤ maxLen) (vb : Value) (l : List Nat) (hsg : Seg w vb l) (hl : Byts l) (hf : Forn (nm s)) :
    Calls Tryz.prog 30 #[.pointer (some ⟨k, 0, none⟩), .string s, vb] w fun e w' => ∃ er p' X', e = .returned (.int .i64 er) ∧ X'.length ≤ X.length + 1 ∧ LW w0 w' B k V b (nf + 1) kp p' X' os vt vw th la lc top ∧ Turned k b w w' := by
  refine (Write_p h.at_.st.d hn s hs vb l hsg hl).mono ?_
  rintro e w' ⟨rfl, h2, h3⟩
  obtain ⟨p', er, X', e1, e2, e3, e4⟩ := write_X h.has h.forn hf l
  rw [e1] at h2 ⊢
  exact ⟨er, p', X', rfl, e4, h.disk h3 ⟨h2, h.at_.st.s.step h3⟩ e2 e3, h3⟩
theorem LW.opened (h : LW w0 w B k V b nf kp p X os vt vw th la lc top) (hg : Glob w0) (hkp1 : 1 ≤ kp) (hos : os.length ≤ 300) (hX : X.length ≤ 200) :
    Calls Tryz.prog 31 #[.pointer (some ⟨B, 0, none⟩)] w fun e w' => e = .returned (.tuple #[]) ∧ ∃ V' vt' vw' th', LW w0 w' B k V' b nf kp p X os vt' vw' th' la lc top := by
  have hones := h.ones
  have hups : ∀ x ∈ os.map OnV.sp, ∀ c ∈ x.chunks, upOk c = true := fun x hx => by
    obtain ⟨o, ho, rfl⟩ := List.mem_map.1 hx
    exact (One.light (h.ok o ho).er (h.ok o ho).wg (h.ok o ho).pos (h.ok o ho).lt (h.ok o ho).ep).2.2.1
  have hf := found_X h.has h.forn hones hups
  have hpw : (os.map OnV.sp).Pairwise fun a b => a.n < b.n := by rw [List.pairwise_map]; exact h.rise
  have hnames : ∀ s ∈ p.l.map Fi.n, s.length ≤ 100 := fun s hs => by
    have := h.has.names.subset hs
    rw [List.map_append] at this
    rcases List.mem_append.1 this with hm | hm
    · obtain ⟨f, hf, rfl⟩ := List.mem_map.1 hm
      have := (h.forn f hf).2
      omega
    · exact (FX_name hones s hm).1
  have hlen : p.l.length ≤ 1000 := by
    have h1 := h.has.perm.length_eq
    have h2 := FX_len hones
    rw [List.length_append] at h1
    rw [List.length_map] at h2
    omega
  have hfo : ∀ x ∈ foundS p ((p.l.map Fi.n).map mkS), x.n < 18446744073709551616 ∧ x.parts.length ≤ 900 ∧ ∀ s ∈ x.parts, s.size ≤ maxLen := fun x hx => by
    obtain ⟨h1, h2, h3⟩ := One.found hones x (hf.subset hx)
    exact ⟨h1, h2, fun s hs => by have := h3 s hs; unfold maxLen; omega⟩
  refine (open_ok h.at_.st hg (by rw [h.has.left]; decide) hnames hlen hfo h.box h.wB).mono ?_
  rintro e w' ⟨rfl, V', vt', vw', th', x4, v4, p4, r4, t4⟩
  obtain ⟨h1, h2⟩ := risen (p4.trans hf) r4 hpw
  have hmax : max (kp : Int) 1 = (kp : Int) := by omega
  rw [waste_X h.has h.forn hones (by rw [h1]), hmax] at v4
  exact ⟨rfl, V', vt', vw', th', { h with box := x4, at_ := v4, is := h1, srt := h2, row := h.row.boxed h.box t4 (by decide) }⟩
end
theorem wf_i64' {n : Int} (h : (Lit.int .i64 n).wf = true) : I64 n := by
  have h1 : IntKind.i64.min = -9223372036854775808 := rfl
  have h2 : IntKind.i64.max = 9223372036854775807 := rfl
  simp only [Lit.wf, Bool.and_eq_true, decide_eq_true_eq] at h
  unfold I64; omega
theorem wf_max {n : Int} (h : I64 n) : (Lit.int .i64 (max n 0)).wf = true := by
  have h1 : IntKind.i64.min = -9223372036854775808 := rfl
  have h2 : IntKind.i64.max = 9223372036854775807 := rfl
  unfold I64 at h
  simp only [Lit.wf, Bool.and_eq_true, decide_eq_true_eq]
  omega
/-- The law's world behind m steps. -/
def LS (w0 w : World) (B k b kp m : Nat) : Prop := ∃ V nf p X os vt vw th la lc top, LW w0 w B k V b nf kp p X os vt vw th la lc top ∧ nf ≤ 6000 * m ∧ os.length ≤ m ∧ top ≤ 3 * m ∧ X.length ≤ m
theorem LS.mk1 {w0 w : World} {B k V b nf kp : Nat} {p : Pd} {X : List Fi} {os : List OnV} {vt vw : Value} {th : List SpV} {la : Option Addr} {lc top m : Nat} (h : LW w0 w B k V b nf kp p X os vt vw th la lc top) (h1 : nf ≤ 6000 * m) (h2 : os.length ≤ m) (h3 : top ≤ 3 * m) (h4 : X.length ≤ m) : LS w0 w B k b kp m := ⟨V, nf, p, X, os, vt, vw, th, la, lc, top, h, h1, h2, h3, h4⟩
set_option maxHeartbeats 16000000 in
set_option maxRecDepth 100000 in
theorem does_w {w0 w : World} {B k b kp m : Nat} (h : LS w0 w B k b kp m) (hg : Glob w0) (hm : m < 100) (hkp : kp ≤ 1000) (hkp1 : 1 ≤ kp) (t : StV) (ht : StOk w0.heap.size w0 t) (hlo : ∀ x ∈ t.sn, x.s.ok) (hw : wSt t ≤ 20000) (h5 : t.wh ≠ 5) (h7 : t.wh ≠ 7) :
    Calls Tryz.prog 18 #[.pointer (some ⟨B, 0, none⟩), .agg #[.int .i64 t.wh, .int .i64 t.n, .slice t.sa t.sn.length t.sc, .slice t.ka t.kl.length t.kc, .slice t.ba t.bl.length t.bc]] w fun e w' => e = .returned (.tuple #[]) ∧ LS w0 w' B k b kp (m + 1) := by
  obtain ⟨V, nf, p, X, os, vt, vw, th, la, lc, top, h, b1, b2, b3, b4⟩ := h
  have hN : I64 t.n := wf_i64' ht.wf
  have hw2 : (t.sn.map wSn).sum ≤ 20000 := by unfold wSt at hw; omega
  obtain ⟨wh, N, sa, sc, sn, ka, kc, kl, ba, bc, bl⟩ := t
  dsimp only at *
  have HT := hide ht
  have HLO := hide hlo
  have H1 := hide (h.below (w' := w.alloc (.cells #[.int .i64 wh, .int .i64 N, .slice sa sn.length sc, .slice ka kl.length kc, .slice ba bl.length bc] 33)) ((Below.refl _ _).alloc (Nat.le_refl _) _))
  have X1 := hide (BoxT.new 33 w #[.int .i64 wh, .int .i64 N, .slice sa sn.length sc, .slice ka kl.length kc, .slice ba bl.length bc])
  clear h ht hlo
  have q5 : (wh == 5) = false := by simpa using h5
  have q7 : (wh == 7) = false := by simpa using h7
  obtain ⟨c0, c1, c2, c3, c4, c5, c6, c7, c8⟩ := wld_cells H1.out.box
  have s0 : (w.alloc (.cells #[.int .i64 wh, .int .i64 N, .slice sa sn.length sc, .slice ka kl.length kc, .slice ba bl.length bc] 33)).cell? ⟨w.heap.size, 0, none⟩ = some (.int .i64 wh) := by rw [X1.out.cellAt]; rfl
  have s1 : (w.alloc (.cells #[.int .i64 wh, .int .i64 N, .slice sa sn.length sc, .slice ka kl.length kc, .slice ba bl.length bc] 33)).cell? ⟨w.heap.size, 1, none⟩ = some (.int .i64 N) := by rw [X1.out.cellAt]; rfl
  have s4 : (w.alloc (.cells #[.int .i64 wh, .int .i64 N, .slice sa sn.length sc, .slice ka kl.length kc, .slice ba bl.length bc] 33)).cell? ⟨w.heap.size, 4, none⟩ = some (.slice ba bl.length bc) := by rw [X1.out.cellAt]; rfl
  have hbl := H1.out.box.lt
  go_enter Tryz.func18, Tryz.ntmps18
  by_cases w4 : wh = 4
  · subst w4
    have HOP := hide (H1.out.opened hg hkp1 (by omega) (by omega))
    clear s0 s1 s4 c0 c1 c2 c3 c4 c5 c6 X1
    as_aux_lemma =>
    go_wp2_with (first
      | (go_at_call 31; refine HOP.out.mono ?_; rintro e w5 ⟨rfl, V5, vt5, vw5, th5, l5⟩; have L5 := hide l5; clear l5 c7 c8; obtain ⟨f0, f1, f2, f3, f4, f5, f6, f7, f8⟩ := wld_cells L5.out.box)
      | (go_at_call 44; refine (settle_w L5.out hg (by omega)).mono ?_; rintro e w6 ⟨rfl, la6, lc6, l6⟩; have WN := hide l6; clear l6 f0 f1 f2 f3 f4 f5 f6 f7 f8; obtain ⟨d0, d1, d2, d3, d4, d5, d6, d7, d8⟩ := wld_cells WN.out.box; have df := WN.out.box.free; have WT := hide WN.out.dead7)
      | (go_at_call 45; refine (WT.out.hasw hg (by omega)).mono ?_; rintro e w9 ⟨rfl, b9⟩; have W9 := hide (WT.out.below b9); clear b9))
    go_end0
    exact ⟨rfl, LS.mk1 W9.out (by omega) (by omega) (by omega) (by omega)⟩
  have q4 : (wh == 4) = false := by simpa using w4
  by_cases w03 : wh = 0 ∨ wh = 1 ∨ wh = 2 ∨ wh = 3
  · have HP := hide (fun w' (hb : Below _ _ w') => put_w (H1.out.below (w' := w') hb) hg (by omega) hkp hkp1 (by omega) (by omega) wh N hN sa ka ba sc kl.length kc bl.length bc sn HT.out.sn HLO.out hw2)
    clear s1 s4 c0 c1 c2 c3 c4 c5 c6
    rcases w03 with rfl | rfl | rfl | rfl
    all_goals
      as_aux_lemma =>
      go_wp2_with (first
        | (go_at_call 43; refine (HP.out _ (Below.refl _ _)).mono ?_; rintro e w6 ⟨rfl, nf6, p6, os6, vt6, vw6, th6, la6, lc6, top6, e1, e2, e3, l6⟩; have WN := hide l6; clear l6 c7 c8; obtain ⟨d0, d1, d2, d3, d4, d5, d6, d7, d8⟩ := wld_cells WN.out.box; have df := WN.out.box.free; have WT := hide WN.out.dead7)
        | (go_at_call 45; refine (WT.out.hasw hg (by omega)).mono ?_; rintro e w9 ⟨rfl, b9⟩; have W9 := hide (WT.out.below b9); clear b9))
      go_end0
      exact ⟨rfl, LS.mk1 W9.out (by omega) (by omega) (by omega) (by omega)⟩
  have q0 : (wh == 0) = false := by simp; omega
  have q1 : (wh == 1) = false := by simp; omega
  have q2 : (wh == 2) = false := by simp; omega
  have q3 : (wh == 3) = false := by simp; omega
  by_cases w6 : wh = 6
  · subst w6
    have HR := hide (fun w' (hb : Below _ _ w') => (H1.out.below (w' := w') hb).room (max N 0) (wf_max hN))
    have D1 : Hid (Below (w.alloc (.cells #[.int .i64 6, .int .i64 N, .slice sa sn.length sc, .slice ka kl.length kc, .slice ba bl.length bc] 33)).heap.size (w.alloc (.cells #[.int .i64 6, .int .i64 N, .slice sa sn.length sc, .slice ka kl.length kc, .slice ba bl.length bc] 33)) (w.alloc (.cells #[.int .i64 6, .int .i64 N, .slice sa sn.length sc, .slice ka kl.length kc, .slice ba bl.length bc] 33)).drew) := (Below.refl _ _).drew
    clear s4 c1 c2 c3 c4 c5 c6
    as_aux_lemma =>
    go_wp2_with fail
    go_region_held3 (fun w' => w'.cell? ⟨B, 0, none⟩ = some (.pointer (some ⟨k, 0, none⟩)) ∧ w'.cell? ⟨w.heap.size, 1, none⟩ = some (.int .i64 N)) (first | go_keep | exact ⟨c0, s1⟩ | exact ⟨d0, t1⟩) (first | (go_at_call 19; refine (HR.out _ D1.out).mono ?_; rintro e w6 ⟨rfl, l6, tu6⟩; have WN := hide l6; have t1 : w6.cell? ⟨w.heap.size, 1, none⟩ = some (.int .i64 N) := (by rw [(box_kb (H1.out.below D1.out).at_.st tu6 (X1.out.belowT D1.out) (by decide)).cellAt]; rfl); clear l6 c7 c8 c0 tu6; obtain ⟨d0, d1, d2, d3, d4, d5, d6, d7, d8⟩ := wld_cells WN.out.box; have df := WN.out.box.free; have WT := hide WN.out.dead7))
    all_goals
      go_wp2_with (go_at_call 45; refine (WT.out.hasw hg (by omega)).mono ?_; rintro e w9 ⟨rfl, b9⟩; have W9 := hide (WT.out.below b9); clear b9)
      go_end0
      exact ⟨rfl, LS.mk1 W9.out (by omega) (by omega) (by omega) (by omega)⟩
  have q6 : (wh == 6) = false := by simpa using w6
  by_cases w8 : wh = 8
  rotate_left
  · have q8 : (wh == 8) = false := by simpa using w8
    have WT := hide H1.out.dead7
    have df := H1.out.box.free
    clear s1 s4 c0 c1 c2 c4 c5 X1
    as_aux_lemma =>
    go_wp2_with (go_at_call 45; refine (WT.out.hasw hg (by omega)).mono ?_; rintro e w9 ⟨rfl, b9⟩; have W9 := hide (WT.out.below b9); clear b9)
    go_end0
    exact ⟨rfl, LS.mk1 W9.out (by omega) (by omega) (by omega) (by omega)⟩
  subst w8
  have hpl := hide (fun w' => Place_any N 5 w' hN (by decide) (by decide))
  have hsz : (w.alloc (.cells #[.int .i64 8, .int .i64 N, .slice sa sn.length sc, .slice ka kl.length kc, .slice ba bl.length bc] 33)).heap.size = w.heap.size + 1 := Array.size_push _
  have HCV : Hid (∀ j : Nat, (convert 22 9 (.slice (some ⟨w.heap.size + 1, 0, none⟩) 1 1)).run Tryz.prog (((w.alloc (.cells #[.int .i64 8, .int .i64 N, .slice sa sn.length sc, .slice ka kl.length kc, .slice ba bl.length bc] 33)).alloc (.cells #[.int .u8 (97 + (j : Int))] 5)).drew) = .ok (.string (strOf [97 + j])) (((w.alloc (.cells #[.int .i64 8, .int .i64 N, .slice sa sn.length sc, .slice ka kl.length kc, .slice ba bl.length bc] 33)).alloc (.cells #[.int .u8 (97 + (j : Int))] 5)).drew)) := fun j => by
    rw [← hsz]
    exact seg_convert ((Seg.lit (w := (w.alloc (.cells #[.int .i64 8, .int .i64 N, .slice sa sn.length sc, .slice ka kl.length kc, .slice ba bl.length bc] 33))) (C := #[.int .u8 (97 + (j : Int))]) [97 + j] (by simp [bs]) (by simp)).below ((Below.refl _ _).drew))
  have D2 : Hid (∀ j : Nat, Below (w.alloc (.cells #[.int .i64 8, .int .i64 N, .slice sa sn.length sc, .slice ka kl.length kc, .slice ba bl.length bc] 33)).heap.size (w.alloc (.cells #[.int .i64 8, .int .i64 N, .slice sa sn.length sc, .slice ka kl.length kc, .slice ba bl.length bc] 33)) (((w.alloc (.cells #[.int .i64 8, .int .i64 N, .slice sa sn.length sc, .slice ka kl.length kc, .slice ba bl.length bc] 33)).alloc (.cells #[.int .u8 (97 + (j : Int))] 5)).drew)) := fun j => ((Below.refl _ _).alloc (Nat.le_refl _) _).drew
  have HW : Hid (∀ j : Nat, Calls Tryz.prog 30 #[.pointer (some ⟨k, 0, none⟩), .string (⟨#[120]⟩ ++ strOf [97 + j]), .slice ba bl.length bc] (((w.alloc (.cells #[.int .i64 8, .int .i64 N, .slice sa sn.length sc, .slice ka kl.length kc, .slice ba bl.length bc] 33)).alloc (.cells #[.int .u8 (97 + (j : Int))] 5)).drew) fun e w' => ∃ er p' X', e = .returned (.int .i64 er) ∧ X'.length ≤ X.length + 1 ∧ LW w0 w' B k V b (nf + 1) kp p' X' os vt vw th la lc top ∧ Turned k b (((w.alloc (.cells #[.int .i64 8, .int .i64 N, .slice sa sn.length sc, .slice ka kl.length kc, .slice ba bl.length bc] 33)).alloc (.cells #[.int .u8 (97 + (j : Int))] 5)).drew) w') := fun j => by
    have hL := H1.out.below (D2.out j)
    refine hL.write (by omega) _ ?_ _ bl ((HT.out.bl.below hL.at_.st.since).seg hL.at_.st.since.size) HT.out.by_ ?_
    · rw [← nm_length, nm_app]
      simp [nm, strOf, maxLen]
    · rw [nm_app]
      exact ⟨rfl, by simp [nm, strOf]⟩
  have XB : Hid (∀ (j : Nat) (w' : World), Turned k b (((w.alloc (.cells #[.int .i64 8, .int .i64 N, .slice sa sn.length sc, .slice ka kl.length kc, .slice ba bl.length bc] 33)).alloc (.cells #[.int .u8 (97 + (j : Int))] 5)).drew) w' → w'.cell? ⟨B, 0, none⟩ = some (.pointer (some ⟨k, 0, none⟩)) ∧ w'.cell? ⟨w.heap.size, 1, none⟩ = some (.int .i64 N) ∧ w'.cell? ⟨w.heap.size, 4, none⟩ = some (.slice ba bl.length bc)) := fun j w' ht => by
    have hL := H1.out.below (D2.out j)
    have hx := box_kb hL.at_.st ht (X1.out.belowT (D2.out j)) (by decide)
    have hb := box_kb hL.at_.st ht hL.box (by decide)
    exact ⟨(wld_cells hb).1, by rw [hx.cellAt]; rfl, by rw [hx.cellAt]; rfl⟩
  have KC : Hid (∀ w' : World, Below (w.alloc (.cells #[.int .i64 8, .int .i64 N, .slice sa sn.length sc, .slice ka kl.length kc, .slice ba bl.length bc] 33)).heap.size (w.alloc (.cells #[.int .i64 8, .int .i64 N, .slice sa sn.length sc, .slice ka kl.length kc, .slice ba bl.length bc] 33)) w' → w'.cell? ⟨B, 0, none⟩ = some (.pointer (some ⟨k, 0, none⟩)) ∧ w'.cell? ⟨w.heap.size, 1, none⟩ = some (.int .i64 N) ∧ w'.cell? ⟨w.heap.size, 4, none⟩ = some (.slice ba bl.length bc)) := fun w' hb => ⟨(wld_cells (H1.out.below hb).box).1, by rw [(X1.out.belowT hb).cellAt]; rfl, by rw [(X1.out.belowT hb).cellAt]; rfl⟩
  have B1 : Hid (Below (w.alloc (.cells #[.int .i64 8, .int .i64 N, .slice sa sn.length sc, .slice ka kl.length kc, .slice ba bl.length bc] 33)).heap.size (w.alloc (.cells #[.int .i64 8, .int .i64 N, .slice sa sn.length sc, .slice ka kl.length kc, .slice ba bl.length bc] 33)) (w.alloc (.cells #[.int .i64 8, .int .i64 N, .slice sa sn.length sc, .slice ka kl.length kc, .slice ba bl.length bc] 33)).drew) := (Below.refl _ _).drew
  clear c1 c2 c3 c4 c5 c6 hsz s1 s4 c0
  as_aux_lemma =>
  go_wp2_with fail
  refine wp_region_M (S := fun w' => w'.cell? ⟨B, 0, none⟩ = some (.pointer (some ⟨k, 0, none⟩)) ∧ w'.cell? ⟨w.heap.size, 1, none⟩ = some (.int .i64 N) ∧ w'.cell? ⟨w.heap.size, 4, none⟩ = some (.slice ba bl.length bc)) (late := []) (by kernel_rfl) (KC.out _ B1.out) (fun hHeld => ?_)
  (try simp only [List.size_toArray, List.length_cons, List.length_nil, Nat.zero_add, Nat.reduceAdd, Array.replicate, List.replicate])
  refine wpAnyM_take (i := 0) (oi := ⟨_, _, _, _, _, _⟩) (v := ?_) rfl (by kernel_rfl) (by kernel_rfl) (by kernel_rfl) (by kernel_rfl) (fun _ _ _ h => h) (Or.inl ⟨by rfl, ?_⟩) hHeld ?_
  rotate_left
  · (intro w' hSw; (try dsimp only at hSw); go_simp; try (with_reducible rfl))
  (try simp only [Act.put, List.setIfInBounds_toArray, List.set_cons_zero, List.set_cons_succ])
  refine wpAnyM_take (i := 1) (oi := ⟨_, _, _, _, _, _⟩) (v := ?_) rfl (by kernel_rfl) (by kernel_rfl) (by kernel_rfl) (by kernel_rfl) (fun _ _ _ h => h) (Or.inl ⟨by rfl, ?_⟩) hHeld ?_
  rotate_left
  · (intro w' hSw; (try dsimp only at hSw); go_simp; try (with_reducible rfl))
  (try simp only [Act.put, List.setIfInBounds_toArray, List.set_cons_zero, List.set_cons_succ])
  refine wpAnyM_take (i := 2) (oi := ⟨_, _, _, _, _, _⟩) (v := ?_) rfl (by kernel_rfl) (by kernel_rfl) (by kernel_rfl) (by kernel_rfl) (fun _ _ _ h => h) (Or.inl ⟨by rfl, ?_⟩) hHeld ?_
  rotate_left
  · (intro w' hSw; (try dsimp only at hSw); go_simp; try (with_reducible rfl))
  (try simp only [Act.put, List.setIfInBounds_toArray, List.set_cons_zero, List.set_cons_succ])
  refine wpAnyM_take (i := 3) (oi := ⟨_, _, _, _, _, _⟩) (v := ?_) rfl (by kernel_rfl) (by kernel_rfl) (by kernel_rfl) (by kernel_rfl) (fun _ _ _ h => h) (Or.inl ⟨by rfl, ?_⟩) hHeld ?_
  rotate_left
  · (intro w' hSw; (try dsimp only at hSw); go_simp; try (with_reducible rfl))
  (try simp only [Act.put, List.setIfInBounds_toArray, List.set_cons_zero, List.set_cons_succ])
  refine wpAnyM_take (i := 4) (oi := ⟨_, _, _, _, _, _⟩) (v := ?_) rfl (by kernel_rfl) (by kernel_rfl) (by kernel_rfl) (by kernel_rfl) (fun _ _ _ h => h) (Or.inl ⟨by rfl, ?_⟩) hHeld ?_
  rotate_left
  · (intro w' hSw; (try dsimp only at hSw); go_simp; try (with_reducible rfl))
  (try simp only [Act.put, List.setIfInBounds_toArray, List.set_cons_zero, List.set_cons_succ])
  refine wpAnyM_take (i := 5) (oi := ⟨_, _, _, _, _, _⟩) (v := ?_) rfl (by kernel_rfl) (by kernel_rfl) (by kernel_rfl) (by kernel_rfl) (fun _ _ _ h => h) (Or.inl ⟨by rfl, ?_⟩) hHeld ?_
  rotate_left
  · (intro w' hSw; (try dsimp only at hSw); go_simp; try (with_reducible rfl))
  (try simp only [Act.put, List.setIfInBounds_toArray, List.set_cons_zero, List.set_cons_succ])
  refine wpAnyM_take (i := 12) (oi := ⟨_, _, _, _, _, _⟩) (v := ?_) rfl (by kernel_rfl) (by kernel_rfl) (by kernel_rfl) (by kernel_rfl) (fun _ _ _ h => h) (Or.inl ⟨by rfl, ?_⟩) hHeld ?_
  rotate_left
  · (intro w' hSw; (try dsimp only at hSw); go_simp; try (with_reducible rfl))
  (try simp only [Act.put, List.setIfInBounds_toArray, List.set_cons_zero, List.set_cons_succ])
  refine wpAnyM_take (i := 13) (oi := ⟨_, _, _, _, _, _⟩) (v := ?_) rfl (by kernel_rfl) (by kernel_rfl) (by kernel_rfl) (by kernel_rfl) (fun _ _ _ h => h) (Or.inl ⟨by rfl, ?_⟩) hHeld ?_
  rotate_left
  · (intro w' hSw; (try dsimp only at hSw); go_simp; try (with_reducible rfl))
  (try simp only [Act.put, List.setIfInBounds_toArray, List.set_cons_zero, List.set_cons_succ])
  refine wpAnyM_one (i := 6) (o := ⟨_, _, _, _, _, _⟩) (by kernel_rfl) rfl (fun K hK => ?_)
  go_simp
  go_at_call 20
  refine (hpl.out _).mono ?_
  rintro e w2 ⟨j, rfl, hj, hw2⟩
  subst hw2
  have hj1 : IntKind.i64.wrap (97 + (j : Int)) = 97 + (j : Int) := by rw [IntKind.wrap_i64]; omega
  have hj2 : IntKind.u8.wrap (97 + (j : Int)) = 97 + (j : Int) := by rw [IntKind.wrap_u8]; omega
  have hcv := HCV.out j
  refine hK.out _ _ (KC.out _ B1.out) (fun hHeld => ?_)
  clear hK K
  (try simp only [List.setIfInBounds_toArray, List.set_cons_zero, List.set_cons_succ])
  refine wpAnyM_take (i := 7) (oi := ⟨_, _, _, _, _, _⟩) (v := ?_) rfl (by kernel_rfl) (by kernel_rfl) (by kernel_rfl) (by kernel_rfl) (fun _ _ _ h => h) (Or.inl ⟨by rfl, ?_⟩) hHeld ?_
  rotate_left
  · (intro w' hSw; (try dsimp only at hSw); go_simp; try (with_reducible rfl))
  (try simp only [Act.put, List.setIfInBounds_toArray, List.set_cons_zero, List.set_cons_succ])
  refine wpAnyM_take (i := 8) (oi := ⟨_, _, _, _, _, _⟩) (v := ?_) rfl (by kernel_rfl) (by kernel_rfl) (by kernel_rfl) (by kernel_rfl) (fun _ _ _ h => h) (Or.inl ⟨by rfl, ?_⟩) hHeld ?_
  rotate_left
  · (intro w' hSw; (try dsimp only at hSw); go_simp; try (with_reducible rfl))
  (try simp only [Act.put, List.setIfInBounds_toArray, List.set_cons_zero, List.set_cons_succ])
  refine wpAnyM_one (i := 9) (o := ⟨_, _, _, _, _, _⟩) (by kernel_rfl) rfl (fun K hK => ?_)
  go_simp
  refine hK.out _ _ (KC.out _ (D2.out j)) (fun hHeld => ?_)
  clear hK K
  (try simp only [List.setIfInBounds_toArray, List.set_cons_zero, List.set_cons_succ])
  refine wpAnyM_one (i := 10) (o := ⟨_, _, _, _, _, _⟩) (by kernel_rfl) rfl (fun K hK => ?_)
  go_simp
  refine hK.out _ _ (KC.out _ (D2.out j)) (fun hHeld => ?_)
  clear hK K
  (try simp only [List.setIfInBounds_toArray, List.set_cons_zero, List.set_cons_succ])
  refine wpAnyM_one (i := 11) (o := ⟨_, _, _, _, _, _⟩) (by kernel_rfl) rfl (fun K hK => ?_)
  go_simp
  refine hK.out _ _ (KC.out _ (D2.out j)) (fun hHeld => ?_)
  clear hK K
  (try simp only [List.setIfInBounds_toArray, List.set_cons_zero, List.set_cons_succ])
  refine wpAnyM_one (i := 14) (o := ⟨_, _, _, _, _, _⟩) (by kernel_rfl) rfl (fun K hK => ?_)
  go_simp
  go_at_call 30
  refine (HW.out j).mono ?_
  rintro e w6 ⟨er, p6, X6, rfl, hx6, l6, tu6⟩
  have xb6 := XB.out j _ tu6
  have WN := hide l6
  refine hK.out _ _ xb6 (fun hHeld => ?_)
  clear l6 c7 c8 tu6 hK K xb6
  (try simp only [List.setIfInBounds_toArray, List.set_cons_zero, List.set_cons_succ])
  refine wpAnyM_done (by kernel_rfl) ?_ _
  obtain ⟨d0, d1, d2, d3, d4, d5, d6, d7, d8⟩ := wld_cells WN.out.box
  have df := WN.out.box.free
  have WT := hide WN.out.dead7
  go_wp2_with (go_at_call 45; refine (WT.out.hasw hg (by omega)).mono ?_; rintro e w9 ⟨rfl, b9⟩; have W9 := hide (WT.out.below b9); clear b9)
  go_end0
  exact ⟨rfl, LS.mk1 W9.out (by omega) (by omega) (by omega) (by omega)⟩
end Go.Proofs.YtbfhcbihgleddaaGreatDoor
/-
  The law VaultPlays, walked.
-/
namespace Go.Proofs.YtbfhcbihgleddaaGreatDoor
open Go.RowKit

theorem StOk.far {B : Nat} {w w' : World} {t : StV} (h : StOk B w t) (hb : Below B w w') (hB : B ≤ w'.heap.size) : StOk w'.heap.size w' t := by
  have h' := h.below hb
  exact ⟨⟨h'.sn.row.mono hB, fun x hx => (h'.sn.each x hx).mono hB, h'.sn.pos⟩, h'.kl.mono hB, (h'.bl.seg hB).segB, h'.by_, h'.wf⟩
theorem StsIn.far {w w' : World} {v : Value} {l : List StV} (h : StsIn w.heap.size w v l) (hb : Below w.heap.size w w') : StsIn w'.heap.size w' v l :=
  ⟨(h.row.below hb).mono hb.size, fun t ht => (h.each t ht).far hb hb.size⟩
theorem LS.step {w0 w : World} {B k b kp m : Nat} (h : LS w0 w B k b kp m) : LS w0 w B k b kp (m + 1) := by
  obtain ⟨V, nf, p, X, os, vt, vw, th, la, lc, top, h, b1, b2, b3, b4⟩ := h
  exact LS.mk1 h (by omega) (by omega) (by omega) (by omega)
theorem LS.below {w0 w w' : World} {B k b kp m : Nat} (h : LS w0 w B k b kp m) (hb : Below w.heap.size w w') : LS w0 w' B k b kp m := by
  obtain ⟨V, nf, p, X, os, vt, vw, th, la, lc, top, h, b1, b2, b3, b4⟩ := h
  exact LS.mk1 (h.below hb) (by omega) (by omega) (by omega) (by omega)
theorem LS.since {w0 w : World} {B k b kp m : Nat} (h : LS w0 w B k b kp m) : Below w0.heap.size w0 w := by
  obtain ⟨V, nf, p, X, os, vt, vw, th, la, lc, top, h, b1, b2, b3, b4⟩ := h
  exact h.at_.st.since
theorem LS.fine {w0 w : World} {B k b kp m : Nat} (h : LS w0 w B k b kp m) : w.cell? ⟨B, 8, none⟩ = some (.bool true) := by
  obtain ⟨V, nf, p, X, os, vt, vw, th, la, lc, top, h, b1, b2, b3, b4⟩ := h
  exact (wld_cells h.box).2.2.2.2.2.2.2.2
theorem LS.begin {w w' : World} {B k V b kp : Nat} {vt vw : Value} (hB : BoxT 52 w' B (wld k (.pointer (some ⟨V, 0, none⟩)) (kp : Int) (.slice none 0 0) (.slice none 0 0) (.int .u64 0) (.bool false) (.bool false) (.bool true))) (hv : VAt w w' V k b 0 ⟨[], 1048576, -1⟩ (kp : Int) vt vw [] []) (hw : w.heap.size ≤ B) : LS w w' B k b kp 0 := by
  have h : LW w w' B k V b 0 kp ⟨[], 1048576, -1⟩ [] [] vt vw [] none 0 0 := {
    box := hB
    at_ := hv
    has := ⟨List.Perm.refl _, rfl, List.nodup_nil⟩
    forn := (fun f hf => by cases hf)
    is := rfl
    srt := (fun i j x y _ hx => by simp at hx)
    ok := (fun o ho => by cases ho)
    rise := List.Pairwise.nil
    top := (fun o ho => by cases ho)
    row := .inl ⟨rfl, rfl⟩
    wB := hw }
  exact LS.mk1 h (Nat.zero_le _) (Nat.le_refl _) (Nat.zero_le _) (Nat.le_refl _)
theorem wst_mem {l : List StV} {t : StV} (h : t ∈ l) : wSt t ≤ (l.map wSt).sum := by
  induction l with
  | nil => cases h
  | cons a r ih =>
    simp only [List.map_cons, List.sum_cons]
    rcases List.mem_cons.1 h with rfl | h
    · omega
    · have := ih h; omega
set_option maxHeartbeats 16000000 in
set_option maxRecDepth 100000 in
theorem VaultPlays_walk (w : World) (hg : Glob w) (keep : Int) (ao : Option Addr) (cap : Nat) (l : List StV) (hS : StsIn w.heap.size w (.slice ao l.length cap) l) (hlo : ∀ t ∈ l, ∀ x ∈ t.sn, x.s.ok) :
    Calls Tryz.prog 4 #[.int .i64 keep, .slice ao l.length cap] w fun e w' => e = .returned (.bool true) ∧ Below w.heap.size w w' := by
  have hkn := hide (known_any w hg)
  have HS := hide hS
  have HLO := hide hlo
  obtain ⟨kp, hkp⟩ : ∃ kp : Nat, max (min keep 20) 1 = (kp : Int) := ⟨(max (min keep 20) 1).toNat, by omega⟩
  have hk1 : 1 ≤ kp := by omega
  have hk2 : kp ≤ 20 := by omega
  have HGL := hide (fun w' (hb : Below w.heap.size w w') => (hg.below hb hg.1 : Glob w'))
  clear hS hlo
  go_enter Tryz.func4, Tryz.ntmps4
  go_wp2_with (go_at_call 9; refine hkn.out.mono ?_; rintro e w1 ⟨rfl, bb1⟩; have B1 := hide bb1; clear bb1 hkn)
  go_at_call 10
  refine (light_any (HS.out.far B1.out)).mono ?_
  rintro e w2 ⟨hlt, bb2⟩
  have B2 := hide (B1.out.trans (bb2.mono B1.out.size))
  clear bb2
  obtain ⟨lb, rfl, hlb⟩ := hlt
  cases lb
  · clear hlb
    as_aux_lemma =>
    go_wp2
    go_ret
    exact ⟨rfl, B2.out⟩
  obtain ⟨hl80, hwt⟩ := hlb rfl
  have HBG := hide (begun_any w2 (HGL.out w2 B2.out) (min keep 20))
  rw [hkp] at HBG
  have HS2 := hide (HS.out.far B2.out)
  have HG2 := hide (HGL.out w2 B2.out)
  clear hlb HS HGL hg
  as_aux_lemma =>
  go_wp2_with (go_at_call 17; refine HBG.out.mono ?_; rintro e w3 ⟨B, k, V, b, vt, vw, rfl, hB, hbx, hv, bb3⟩; have L3 := hide (LS.begin hbx hv hB); clear hbx hv bb3 hB HBG)
  go_loopw [6] (fun iv wr => ∃ i : Nat, i ≤ l.length ∧ iv = .int .i64 (i : Int) ∧ Hid (LS w2 wr B k b kp i)) (fun iv _ => l.length - (intOf iv).toNat)
  case atStart => exact ⟨0, Nat.zero_le _, rfl, L3.out⟩
  case round =>
    obtain ⟨i, hi, rfl, LI⟩ := hrel
    have c8 := LI.out.fine
    by_cases hlt : i < l.length
    rotate_left
    · have hlti : ¬ (i : Int) < (l.length : Int) := by omega
      have HF := hide (B2.out.trans (LI.out.since.mono B2.out.size))
      as_aux_lemma =>
      go_wp2
      go_ret
      exact ⟨rfl, HF.out⟩
    have hlti : (i : Int) < (l.length : Int) := by omega
    obtain ⟨t, ht⟩ : ∃ t, l[i]? = some t := ⟨_, List.getElem?_eq_getElem hlt⟩
    have hmem : t ∈ l := List.mem_of_getElem? ht
    obtain ⟨sb, so, hla, -, hcl⟩ := (HS2.out.row.below LI.out.since).at_ ht
    subst hla
    have r0 : wr.cell? ⟨sb, so + i * 5, none⟩ = some (.int .i64 t.wh) := by simpa using hcl i t ht 0 _ rfl
    have r1 : wr.cell? ⟨sb, so + i * 5 + 1, none⟩ = some (.int .i64 t.n) := by simpa using hcl i t ht 1 _ rfl
    have r2 : wr.cell? ⟨sb, so + i * 5 + 2, none⟩ = some (.slice t.sa t.sn.length t.sc) := by simpa using hcl i t ht 2 _ rfl
    have r3 : wr.cell? ⟨sb, so + i * 5 + 3, none⟩ = some (.slice t.ka t.kl.length t.kc) := by simpa using hcl i t ht 3 _ rfl
    have r4 : wr.cell? ⟨sb, so + i * 5 + 4, none⟩ = some (.slice t.ba t.bl.length t.bc) := by simpa using hcl i t ht 4 _ rfl
    have LI1 := hide LI.out.step
    have hww := Nat.le_trans (wst_mem hmem) hwt
    have HDO : Hid (t.wh ≠ 5 → t.wh ≠ 7 → Calls Tryz.prog 18 #[.pointer (some ⟨B, 0, none⟩), .agg #[.int .i64 t.wh, .int .i64 t.n, .slice t.sa t.sn.length t.sc, .slice t.ka t.kl.length t.kc, .slice t.ba t.bl.length t.bc]] wr fun e w' => e = .returned (.tuple #[]) ∧ LS w2 w' B k b kp (i + 1)) := fun h5 h7 => does_w LI.out HG2.out (by omega) (by omega) hk1 t (HS2.out.each t hmem) (HLO.out t hmem) hww h5 h7
    clear hcl ht hmem hww
    by_cases h5 : t.wh = 5
    · have q5 : (t.wh != 5) = false := by simp [h5]
      have q5b : (t.wh == 5) = true := by simp [h5]
      clear HDO r1 r2 r3 r4
      as_aux_lemma =>
      go_wp2_with fail
      go_roundw
      case rel => exact ⟨i + 1, by omega, by go_num, LI1.out⟩
      case measure => simp [intOf]; omega
    have q5 : (t.wh != 5) = true := by simp [h5]
    have q5b : (t.wh == 5) = false := by simp [h5]
    by_cases h7 : t.wh = 7
    · have q7 : (t.wh != 7) = false := by simp [h7]
      have q7b : (t.wh == 7) = true := by simp [h7]
      clear HDO r1 r2 r3 r4
      as_aux_lemma =>
      go_wp2_with fail
      go_roundw
      case rel => exact ⟨i + 1, by omega, by go_num, LI1.out⟩
      case measure => simp [intOf]; omega
    have q7 : (t.wh != 7) = true := by simp [h7]
    have q7b : (t.wh == 7) = false := by simp [h7]
    have HD := hide (HDO.out h5 h7)
    clear HDO
    as_aux_lemma =>
    go_wp2_with (go_at_call 18; refine HD.out.mono ?_; rintro e w6 ⟨rfl, l6⟩; have L6 := hide l6; clear l6)
    go_roundw
    case rel => exact ⟨i + 1, by omega, by go_num, L6.out⟩
    case measure => simp [intOf]; omega
end Go.Proofs.YtbfhcbihgleddaaGreatDoor

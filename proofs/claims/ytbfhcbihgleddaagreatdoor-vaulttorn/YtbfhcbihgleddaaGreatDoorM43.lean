/-
  Texts of the vault, in build order: VTn1.
-/
import Derived.Test.YtbfhcbihgleddaaGreatDoorM39
import Derived.Test.YtbfhcbihgleddaaGreatDoorM42
/-
  The vault of the law VaultTorn: what it keeps of the world while snapshots are put.
-/
namespace Go.Proofs.YtbfhcbihgleddaaGreatDoor
open Go.RowKit

/-- A list of parts as it lies. -/
structure TnV where
  a : Option Addr
  c : Nat
  l : List SnV
def TnV.cs (t : TnV) : List Value := [.slice t.a t.l.length t.c]
theorem TnV.cs_len (t : TnV) : t.cs.length = 1 := rfl
theorem TnV.cs_one (t : TnV) : ∀ u ∈ t.cs, u.oneCell' = true := fun u hu => by simp [TnV.cs] at hu; subst hu; rfl
/-- A list of parts that is light and right. -/
structure TnOk (B : Nat) (w : World) (t : TnV) : Prop where
  sn : SnsIn B w (.slice t.a t.l.length t.c) t.l
  er : ∀ x ∈ t.l, sEr x.s = 0 ∧ x.s.ok
  wg : (t.l.map wSn).sum ≤ 20000
/-- The snapshots with the numbers from n on. -/
def xsT (n : Nat) : List TnV → List Sp
  | [] => []
  | t :: ls => newS n 7 (chunksOf (t.l.map SnV.s)) :: xsT (n + 1) ls
theorem xsT_len (n : Nat) (ls : List TnV) : (xsT n ls).length = ls.length := by
  induction ls generalizing n with
  | nil => rfl
  | cons t ls ih => simp [xsT, ih]
theorem xsT_app (n : Nat) (ls : List TnV) (t : TnV) : xsT n (ls ++ [t]) = xsT n ls ++ [newS (n + ls.length) 7 (chunksOf (t.l.map SnV.s))] := by
  induction ls generalizing n with
  | nil => rfl
  | cons u ls ih =>
    simp only [List.cons_append, xsT, List.length_cons, ih]
    rw [show n + 1 + ls.length = n + (ls.length + 1) by omega]
theorem xsT_get (n : Nat) (ls : List TnV) (i : Nat) : (xsT n ls)[i]? = (ls[i]?).map fun t => newS (n + i) 7 (chunksOf (t.l.map SnV.s)) := by
  induction ls generalizing n i with
  | nil => simp [xsT]
  | cons u ls ih =>
    cases i with
    | zero => simp [xsT]
    | succ i =>
      simp only [xsT, List.getElem?_cons_succ, ih]
      rw [show n + 1 + i = n + (i + 1) by omega]
theorem xsT_mem {n : Nat} {ls : List TnV} {y : Sp} (h : y ∈ xsT n ls) : ∃ i t, ls[i]? = some t ∧ y = newS (n + i) 7 (chunksOf (t.l.map SnV.s)) := by
  obtain ⟨i, hi, e⟩ := List.mem_iff_getElem.1 h
  have h2 := xsT_get n ls i
  rw [List.getElem?_eq_getElem hi] at h2
  cases hl : ls[i]? with
  | none => rw [hl] at h2; cases h2
  | some t =>
    rw [hl] at h2
    exact ⟨i, t, hl, by rw [← e]; exact Option.some.inj h2⟩
section
variable {B : Nat} {w0 : World} {ls : List TnV}
theorem xsT_one (h : ∀ t ∈ ls, TnOk B w0 t) (hl : ls.length ≤ 10) : ∀ y ∈ xsT 1 ls, One y ∧ (∀ c ∈ y.chunks, upOk c = true) ∧ y.n ≤ ls.length ∧ y.ep = 7 := by
  intro y hy
  obtain ⟨i, t, hi, rfl⟩ := xsT_mem hy
  have hil := (List.getElem?_eq_some_iff.1 hi).1
  have ht := h t (List.mem_of_getElem? hi)
  obtain ⟨_, h2, h3, _, _⟩ := One.light ht.er ht.wg (n := 1 + i) (ep := 7) (by omega) (by omega) (by decide)
  exact ⟨h2, h3, by show 1 + i ≤ _; omega, rfl⟩
theorem fSum_app (a b : List Fi) : fSum (a ++ b) = fSum a + fSum b := by simp [fSum]
theorem xsT_sum (h : ∀ t ∈ ls, TnOk B w0 t) (n : Nat) (h0 : 0 < n) (hn : n + ls.length ≤ 1000) : fSum (FX (xsT n ls)) ≤ 160200 * ls.length := by
  induction ls generalizing n with
  | nil => simp [xsT, FX, fSum]
  | cons t ls ih =>
    have ht := h t List.mem_cons_self
    have h1 := ih (fun u hu => h u (List.mem_cons_of_mem _ hu)) (n + 1) (by omega) (by simp at hn; omega)
    obtain ⟨_, _, _, _, h5⟩ := One.light ht.er ht.wg (n := n) (ep := 7) h0 (by simp at hn; omega) (by decide)
    rw [show xsT n (t :: ls) = [newS n 7 (chunksOf (t.l.map SnV.s))] ++ xsT (n + 1) ls from rfl, FX_app, fSum_app]
    simp only [List.length_cons]
    omega
end
theorem xsT_rise (n : Nat) (ls : List TnV) : (xsT n ls).Pairwise fun a b => a.n < b.n := by
  induction ls generalizing n with
  | nil => exact List.Pairwise.nil
  | cons t ls ih =>
    refine List.Pairwise.cons (fun y hy => ?_) (ih (n + 1))
    obtain ⟨i, u, _, rfl⟩ := xsT_mem hy
    show n < n + 1 + i
    omega
/-- The vault's side. -/
def TVv (w0 w : World) (k V b nf : Nat) (ls : List TnV) : Prop := ∃ vt vw th p, th.map SpV.s = xsT 1 ls ∧ VAt w0 w V k b nf p (9 : Int) vt vw th [] ∧ Has p (FX (xsT 1 ls)) ∧ p.room = 1048576
/-- The vault, and the law's list of what was put. -/
structure TV (w0 w : World) (k V b nf : Nat) (ls : List TnV) (va : Value) : Prop where
  v : TVv w0 w k V b nf ls
  row : Row 30 1 TnV.cs w0.heap.size w va ls
  ok : ∀ t ∈ ls, TnOk w0.heap.size w0 t
theorem Row.pt30 {w0 w w' : World} {V k b n : Nat} {p : Pd} {keep : Int} {vt vw vt' vw' va : Value} {th : List SpV} {ws : List ByteArray} {al : List TnV} {base : Nat} (hr : Row 30 1 TnV.cs base w va al) (h : VAt w0 w V k b n p keep vt vw th ws) (ht : PT V k b vt vw vt' vw' w w') : Row 30 1 TnV.cs base w' va al :=
  hr.back fun g e => by
    obtain ⟨cur, hc⟩ := hr.has g e
    have := hc.pt h ht (by decide) (by decide) (by decide) (by decide)
    unfold BoxT at this hc
    rw [this, hc]
section
variable {w0 w w' : World} {k V b nf : Nat} {ls : List TnV} {va vs : Value}
theorem TVv.below (H : TVv w0 w k V b nf ls) (hb : Below w.heap.size w w') : TVv w0 w' k V b nf ls := by
  obtain ⟨vt, vw, th, p, h1, h2, h3⟩ := H
  exact ⟨vt, vw, th, p, h1, h2.below hb, h3⟩
theorem TV.below (H : TV w0 w k V b nf ls va) (hb : Below w.heap.size w w') : TV w0 w' k V b nf ls va := ⟨H.v.below hb, H.row.below hb, H.ok⟩
theorem TV.since (H : TV w0 w k V b nf ls va) : Below w0.heap.size w0 w := by
  obtain ⟨vt, vw, th, p, h1, h2, h3⟩ := H.v
  exact h2.st.since
/-- A Put that is taken. -/
theorem TV.put (H : TV w0 w k V b nf ls va) (hg : Glob w0) {t : TnV} (ht : TnOk w0.heap.size w0 t) (hl : ls.length ≤ 5) (hnf : nf + 3000 ≤ 1000000) {vn : Int} (hvn : vn = ((ls.length + 1 : Nat) : Int)) :
    Calls Tryz.prog 13 #[.pointer (some ⟨V, 0, none⟩), .int .u64 vn, .int .u64 7, .slice t.a t.l.length t.c] w fun e w' => e = .returned (.int .i64 0) ∧ TVv w0 w' k V b (nf + 3000) (ls ++ [t]) ∧ Row 30 1 TnV.cs w0.heap.size w' va ls := by
  subst hvn
  obtain ⟨vt, vw, th, p, h1, h2, h3, h4⟩ := H.v
  have hsi := h2.st.since
  have hone := xsT_one H.ok (by omega)
  have hsum := xsT_sum H.ok 1 (by decide) (by omega)
  have hin : SnsIn w.heap.size w (.slice t.a t.l.length t.c) t.l := by
    have := ht.sn.below hsi
    exact ⟨this.row.mono hsi.size, fun x hx => (this.each x hx).mono hsi.size, this.pos⟩
  refine (put_x (kp := 9) h2 hg h1 h3 (fun y hy => (hone y hy).1) (by rw [xsT_len]; omega) (by decide) hin ht.er ht.wg (n := ls.length + 1) (ep := 7) (by omega) (by omega) (by decide) (fun y hy => by have := (hone y hy).2.2.1; omega) (by rw [h4]; omega) hnf).mono ?_
  rintro e w' ⟨rfl, p', vt', vw', th', g1, g2, g3, g4, g5⟩
  rw [xsT_len, show ls.length + 1 - 9 = 0 by omega, List.drop_zero] at g1 g3
  have ha : xsT 1 (ls ++ [t]) = xsT 1 ls ++ [newS (ls.length + 1) 7 (chunksOf (t.l.map SnV.s))] := by rw [xsT_app, Nat.add_comm 1]
  exact ⟨rfl, ⟨vt', vw', th', p', by rw [ha]; exact g1, g2, by rw [ha]; exact g3, by rw [g4, h4]⟩, H.row.pt30 h2 g5⟩
/-- A Put that is refused. -/
theorem TV.bad (H : TV w0 w k V b nf ls va) (hg : Glob w0) {t : TnV} (hsn : SnsIn w0.heap.size w0 (.slice t.a t.l.length t.c) t.l) (her : ∃ x ∈ t.l, sEr x.s ≠ 0) (hll : t.l.length ≤ 100000) (hl : ls.length ≤ 6) (hnf : nf + 3000 ≤ 1000000) {vn : Int} (hvn : vn = ((ls.length + 1 : Nat) : Int)) :
    Calls Tryz.prog 13 #[.pointer (some ⟨V, 0, none⟩), .int .u64 vn, .int .u64 7, .slice t.a t.l.length t.c] w fun e w' => ∃ er : Int, (er = 10 ∨ er = 12) ∧ e = .returned (.int .i64 er) ∧ TV w0 w' k V b (nf + 3000) ls va := by
  subst hvn
  obtain ⟨vt, vw, th, p, h1, h2, h3, h4⟩ := H.v
  have hsi := h2.st.since
  have hone := xsT_one H.ok (by omega)
  have hin : SnsIn w.heap.size w (.slice t.a t.l.length t.c) t.l := by
    have := hsn.below hsi
    exact ⟨this.row.mono hsi.size, fun x hx => (this.each x hx).mono hsi.size, this.pos⟩
  refine (put_bad (kp := 9) h2 hg h1 (fun y hy => (hone y hy).1) (by rw [xsT_len]; omega) (by decide) (by simp) (fun s hs => by cases hs) hin her hll (n := ls.length + 1) (ep := 7) (by omega) (by decide) hnf).mono ?_
  rintro e w' ⟨er, he, rfl, vt', vw', th', g1, g2, g5⟩
  exact ⟨er, he, rfl, ⟨vt', vw', th', p, g1, g2, h3, h4⟩, H.row.pt30 h2 g5, H.ok⟩
end
end Go.Proofs.YtbfhcbihgleddaaGreatDoor

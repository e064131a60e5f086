/-
  Texts of the vault, in build order: VPk, VPutX, VTn1.
-/
import Derived.Test.YtbfhcbihgleddaaGreatDoorM38
import Derived.Test.YtbfhcbihgleddaaGreatDoorM39
import Derived.Test.YtbfhcbihgleddaaGreatDoorM34
import Derived.Test.YtbfhcbihgleddaaGreatDoorM35
/-
  The parts of a light snapshot are packed as one chunk, or as none.
-/
namespace Go.Proofs.YtbfhcbihgleddaaGreatDoor
open Go.RowKit

def flatP (ss : List Sn) : List Nat := ss.flatMap fun s => sealed (sOut s)
def chunksOf (ss : List Sn) : List (List Nat) := if ss = [] then [] else [flatP ss]
theorem flatP_nil {ss : List Sn} : flatP ss = [] ↔ ss = [] := by
  cases ss with
  | nil => simp [flatP]
  | cons s ss =>
    simp only [flatP, List.flatMap_cons, List.append_eq_nil_iff, reduceCtorEq, iff_false]
    intro h
    have := congrArg List.length h.1
    rw [sealed_len] at this
    simp at this
theorem pk_flat (ss : List Sn) : (∀ s ∈ ss, sEr s = 0) → ∀ c : List Nat, c.length + (flatP ss).length ≤ 1048568 → pk [] c ss = (if c ++ flatP ss = [] then [] else [c ++ flatP ss], 0) := by
  induction ss with
  | nil =>
    intro _ c _
    rw [pk, show flatP [] = [] from rfl, List.append_nil]
    rfl
  | cons s ss ih =>
    intro h c hl
    have e : flatP (s :: ss) = sealed (sOut s) ++ flatP ss := rfl
    rw [e, List.length_append] at hl
    rw [pk, if_pos (h s (by simp)), if_neg (by omega), ih (fun t ht => h t (by simp [ht])) _ (by rw [List.length_append]; omega), e, List.append_assoc]
theorem pk_light {ss : List Sn} (h : ∀ s ∈ ss, sEr s = 0) (hl : (flatP ss).length ≤ 1048568) : pk [] [] ss = (chunksOf ss, 0) := by
  rw [pk_flat ss h [] (by simpa using hl), List.nil_append]
  unfold chunksOf
  by_cases h0 : ss = []
  · rw [if_pos (flatP_nil.2 h0), if_pos h0]
  · rw [if_neg fun e => h0 (flatP_nil.1 e), if_neg h0]
theorem pk_er (ss : List Sn) : (∃ s ∈ ss, sEr s ≠ 0) → ∀ acc c, (pk acc c ss).1 = [] ∧ ((pk acc c ss).2 = 10 ∨ (pk acc c ss).2 = 12) := by
  induction ss with
  | nil => rintro ⟨s, hs, _⟩; cases hs
  | cons s ss ih =>
    rintro ⟨t, ht, hne⟩ acc c
    by_cases hs : sEr s = 0
    · have ht' : t ∈ ss := by
        rcases List.mem_cons.1 ht with rfl | ht
        · exact absurd hs hne
        · exact ht
      rw [pk, if_pos hs]
      split
      · exact ih ⟨t, ht', hne⟩ _ _
      · exact ih ⟨t, ht', hne⟩ _ _
    · rw [pk, if_neg hs]
      refine ⟨rfl, ?_⟩
      rcases sEr_three s with h | h | h
      · exact absurd h hs
      · exact .inl h
      · exact .inr h
theorem sealed_w (s : Sn) (x : SnV) (hx : x.s = s) : (sealed (sOut s)).length ≤ 8 * wSn x := by
  subst hx
  rw [sealed_len]
  have h1 := flat_len sbe 8 (fun n => Nat.le_of_eq (sbe_len n)) x.s.marks
  have h2 := flat_len pnb 32 (fun n => Nat.le_of_eq (pnb_len n)) x.s.panes
  have h3 := flat_len otb 27 otb_len x.s.outs
  have h4 : (sOut x.s).length ≤ (snb x.s).length := by
    unfold sOut
    split
    · simp
    · split <;> simp
  have h5 : (snb x.s).length ≤ 18 + (x.s.marks.flatMap sbe).length + (x.s.panes.flatMap pnb).length + (x.s.outs.flatMap otb).length := by
    unfold snb
    simp only [List.length_append, be_length, sbe_len]
    omega
  unfold wSn
  omega
theorem flat_w (l : List SnV) : (flatP (l.map SnV.s)).length ≤ 8 * (l.map wSn).sum := by
  induction l with
  | nil => simp [flatP]
  | cons x l ih =>
    have := sealed_w x.s x rfl
    rw [List.map_cons, show flatP (x.s :: l.map SnV.s) = sealed (sOut x.s) ++ flatP (l.map SnV.s) from rfl, List.length_append, List.map_cons, List.sum_cons]
    omega
theorem flat_byts2 (ss : List Sn) : Byts (flatP ss) := flat_byts (fun s => sealed (sOut s)) (fun s => sealed_byts' _ (sOut_byts s)) ss
/-- A snapshot of light parts. -/
theorem One.light {l : List SnV} (h : ∀ x ∈ l, sEr x.s = 0 ∧ x.s.ok) (hw : (l.map wSn).sum ≤ 20000) {n ep : Nat} (h0 : 0 < n) (hn : n < 18446744073709551616) (hep : ep < 18446744073709551616) : pk [] [] (l.map SnV.s) = (chunksOf (l.map SnV.s), 0) ∧ One (newS n ep (chunksOf (l.map SnV.s))) ∧ (∀ c ∈ chunksOf (l.map SnV.s), upOk c = true) ∧ gotS (chunksOf (l.map SnV.s)) = l.map SnV.s ∧ fSum (FX [newS n ep (chunksOf (l.map SnV.s))]) ≤ 160200 := by
  have hf := flat_w l
  have hall : ∀ s ∈ l.map SnV.s, sEr s = 0 ∧ s.ok := fun s hs => by
    obtain ⟨x, hx, rfl⟩ := List.mem_map.1 hs
    exact h x hx
  have hb := flat_byts2 (l.map SnV.s)
  have hone : One (newS n ep (chunksOf (l.map SnV.s))) := by
    refine ⟨h0, hn, hep, ?_, ?_, fun c hc => ?_⟩
    · show (chunksOf _).length ≤ 1
      unfold chunksOf
      split <;> simp
    · show pnames n 0 (chunksOf _) = (chunksOf _).map _
      unfold chunksOf
      split <;> rfl
    · have hc : c ∈ chunksOf (l.map SnV.s) := hc
      unfold chunksOf at hc
      split at hc
      · cases hc
      · rcases List.mem_singleton.1 hc with rfl
        exact ⟨hb, by rw [sealed_len]; omega⟩
  refine ⟨pk_light (fun s hs => (hall s hs).1) (by omega), hone, fun c hc => ?_, ?_, ?_⟩
  · unfold chunksOf at hc
    split at hc
    · cases hc
    · rename_i hne
      rcases List.mem_singleton.1 hc with rfl
      exact upOk_parts _ hall hne
  · unfold chunksOf
    split
    · rename_i e; rw [e]; rfl
    · unfold gotS
      rw [List.flatMap_cons, List.flatMap_nil, List.append_nil, show unpk (flatP (l.map SnV.s)) = some (l.map SnV.s) from unpk_parts _ hall]
      rfl
  · have hm := hone.man
    have e : FX [newS n ep (chunksOf (l.map SnV.s))] = fW (newS n ep (chunksOf (l.map SnV.s))) :: fP (newS n ep (chunksOf (l.map SnV.s))) := by show fW _ :: fP _ ++ [] = _; rw [List.append_nil]
    have h2 : fSum (fP (newS n ep (chunksOf (l.map SnV.s)))) ≤ 160010 := by
      unfold fP
      show fSum ((chunksOf (l.map SnV.s)).map _) ≤ _
      unfold chunksOf
      split
      · simp [fSum]
      · simp only [List.map_cons, List.map_nil, fSum, List.sum_cons, List.sum_nil, sealed_len]
        omega
    rw [e]
    have h3 : ∀ (f : Fi) (r : List Fi), fSum (f :: r) = f.x.length + fSum r := fun f r => by simp [fSum]
    rw [h3]
    have h4 : (fW (newS n ep (chunksOf (l.map SnV.s)))).x.length ≤ 100 := hm
    omega
end Go.Proofs.YtbfhcbihgleddaaGreatDoor
/-
  Put of light parts on a disk that has just the vault's files.
-/
namespace Go.Proofs.YtbfhcbihgleddaaGreatDoor
open Go.RowKit

theorem pPut_one {p : Pd} {xs : List Sp} {l : List SnV} {kp n ep : Nat} (h : Has p (FX xs)) (hxs : ∀ y ∈ xs, One y) (hl : ∀ x ∈ l, sEr x.s = 0 ∧ x.s.ok) (hw : (l.map wSn).sum ≤ 20000) (h0 : 0 < n) (hn : n < 18446744073709551616) (hep : ep < 18446744073709551616) (hlt : ∀ y ∈ xs, y.n < n) (hr : (fSum (FX xs) : Int) + 160200 ≤ p.room) :
    ∃ p', pPut kp p xs [] n ep (pk [] [] (l.map SnV.s)) = (p', 0, (xs ++ [newS n ep (chunksOf (l.map SnV.s))]).drop (xs.length + 1 - kp), []) ∧ Has p' (FX ((xs ++ [newS n ep (chunksOf (l.map SnV.s))]).drop (xs.length + 1 - kp))) ∧ p'.room = p.room := by
  obtain ⟨h1, h2, _, _, h5⟩ := One.light hl hw h0 hn hep
  obtain ⟨p', e, g1, g2⟩ := put_one (kp := kp) h hxs h2 hlt (by omega)
  refine ⟨p', ?_, g1, g2⟩
  rw [h1, pPut, if_pos rfl, if_neg (newest_ltS h0 hlt)]
  exact e
theorem put_x {w0 w : World} {V k b nf kp : Nat} {p : Pd} {vt vw vs : Value} {th : List SpV} {xs : List Sp} {l : List SnV} (hv : VAt w0 w V k b nf p (kp : Int) vt vw th []) (hg : Glob w0) (hth : th.map SpV.s = xs) (h : Has p (FX xs)) (hxs : ∀ y ∈ xs, One y) (hll : xs.length ≤ 400) (hkp : kp ≤ 1000000) (hin : SnsIn w.heap.size w vs l) (hl : ∀ x ∈ l, sEr x.s = 0 ∧ x.s.ok) (hw : (l.map wSn).sum ≤ 20000) {n ep : Nat} (h0 : 0 < n) (hn : n < 18446744073709551616) (hep : ep < 18446744073709551616) (hlt : ∀ y ∈ xs, y.n < n) (hr : (fSum (FX xs) : Int) + 160200 ≤ p.room) (hnf : nf + 3000 ≤ 1000000) :
    Calls Tryz.prog 13 #[.pointer (some ⟨V, 0, none⟩), .int .u64 n, .int .u64 ep, vs] w fun e w' => e = .returned (.int .i64 0) ∧ ∃ p' vt' vw' th', th'.map SpV.s = (xs ++ [newS n ep (chunksOf (l.map SnV.s))]).drop (xs.length + 1 - kp) ∧ VAt w0 w' V k b (nf + 3000) p' (kp : Int) vt' vw' th' [] ∧ Has p' (FX ((xs ++ [newS n ep (chunksOf (l.map SnV.s))]).drop (xs.length + 1 - kp))) ∧ p'.room = p.room ∧ PT V k b vt vw vt' vw' w w' := by
  obtain ⟨p', e, g1, g2⟩ := pPut_one (kp := kp) h hxs hl hw h0 hn hep hlt hr
  obtain ⟨h1, h2, _, _, _⟩ := One.light hl hw h0 hn hep
  have hlen : th.length = xs.length := by have := congrArg List.length hth; rwa [List.length_map] at this
  have hl2 : l.length ≤ 2000 := by
    have : ∀ l : List SnV, 10 * l.length ≤ (l.map wSn).sum := by
      intro l
      induction l with
      | nil => simp
      | cons x l ih => rw [List.map_cons, List.sum_cons, List.length_cons]; unfold wSn at *; omega
    have := this l
    omega
  refine (Put_any hv hg n ep hn hep vs l hin (by omega) ?_ hkp (by omega) (hx_of hth (One.found hxs)) (by simp) (fun s hs => by cases hs) hnf p' 0 _ [] (by rw [hth]; exact e)).mono ?_
  · rw [h1]
    have := h2.len
    show (chunksOf _).length ≤ 900
    have h3 : (chunksOf (l.map SnV.s)).length ≤ 1 := this
    omega
  · rintro e2 w' ⟨rfl, vt', vw', th', q1, q2, q3⟩
    exact ⟨rfl, p', vt', vw', th', q1, q2, g1, g2, q3⟩
theorem put_bad {w0 w : World} {V k b nf kp : Nat} {p : Pd} {vt vw vs : Value} {th : List SpV} {xs : List Sp} {ws : List ByteArray} {l : List SnV} (hv : VAt w0 w V k b nf p (kp : Int) vt vw th ws) (hg : Glob w0) (hth : th.map SpV.s = xs) (hxs : ∀ y ∈ xs, One y) (hll : xs.length ≤ 400) (hkp : kp ≤ 1000000) (hws : ws.length ≤ 90000) (hwz : ∀ s ∈ ws, s.size ≤ 100) (hin : SnsIn w.heap.size w vs l) (hl : ∃ x ∈ l, sEr x.s ≠ 0) (hll2 : l.length ≤ 100000) {n ep : Nat} (hn : n < 18446744073709551616) (hep : ep < 18446744073709551616) (hnf : nf + 3000 ≤ 1000000) :
    Calls Tryz.prog 13 #[.pointer (some ⟨V, 0, none⟩), .int .u64 n, .int .u64 ep, vs] w fun e w' => ∃ er : Int, (er = 10 ∨ er = 12) ∧ e = .returned (.int .i64 er) ∧ ∃ vt' vw' th', th'.map SpV.s = xs ∧ VAt w0 w' V k b (nf + 3000) p (kp : Int) vt' vw' th' ws ∧ PT V k b vt vw vt' vw' w w' := by
  have hb : ∃ s ∈ l.map SnV.s, sEr s ≠ 0 := by
    obtain ⟨x, hx, hne⟩ := hl
    exact ⟨x.s, List.mem_map.2 ⟨x, hx, rfl⟩, hne⟩
  obtain ⟨h1, h2⟩ := pk_er _ hb [] []
  have hlen : th.length = xs.length := by have := congrArg List.length hth; rwa [List.length_map] at this
  have hne : (pk [] [] (l.map SnV.s)).2 ≠ 0 := by rcases h2 with h | h <;> rw [h] <;> decide
  refine (Put_any hv hg n ep hn hep vs l hin hll2 (by rw [h1]; simp) hkp (by omega) (hx_of hth (One.found hxs)) hws hwz hnf p (pk [] [] (l.map SnV.s)).2 xs ws (by rw [hth, pPut, if_neg hne])).mono ?_
  rintro e2 w' ⟨rfl, vt', vw', th', q1, q2, q3⟩
  exact ⟨_, h2, rfl, vt', vw', th', q1, q2, q3⟩
end Go.Proofs.YtbfhcbihgleddaaGreatDoor
/-
  The vault of the law VaultTorn: what it keeps of the world while snapshots are put.
-/
namespace Go.Proofs.YtbfhcbihgleddaaGreatDoor
open Go.RowKit

/-- A list of parts as it lies. -/
structure TnV where
  a : Option Addr
  c : Nat
  l : List SnV
def TnV.cs (t : TnV) : List Value := [.slice t.a t.l.length t.c]
theorem TnV.cs_len (t : TnV) : t.cs.length = 1 := rfl
theorem TnV.cs_one (t : TnV) : ∀ u ∈ t.cs, u.oneCell' = true := fun u hu => by simp [TnV.cs] at hu; subst hu; rfl
/-- A list of parts that is light and right. -/
structure TnOk (B : Nat) (w : World) (t : TnV) : Prop where
  sn : SnsIn B w (.slice t.a t.l.length t.c) t.l
  er : ∀ x ∈ t.l, sEr x.s = 0 ∧ x.s.ok
  wg : (t.l.map wSn).sum ≤ 20000
/-- The snapshots with the numbers from n on. -/
def xsT (n : Nat) : List TnV → List Sp
  | [] => []
  | t :: ls => newS n 7 (chunksOf (t.l.map SnV.s)) :: xsT (n + 1) ls
theorem xsT_len (n : Nat) (ls : List TnV) : (xsT n ls).length = ls.length := by
  induction ls generalizing n with
  | nil => rfl
  | cons t ls ih => simp [xsT, ih]
theorem xsT_app (n : Nat) (ls : List TnV) (t : TnV) : xsT n (ls ++ [t]) = xsT n ls ++ [newS (n + ls.length) 7 (chunksOf (t.l.map SnV.s))] := by
  induction ls generalizing n with
  | nil => rfl
  | cons u ls ih =>
    simp only [List.cons_append, xsT, List.length_cons, ih]
    rw [show n + 1 + ls.length = n + (ls.length + 1) by omega]
theorem xsT_get (n : Nat) (ls : List TnV) (i : Nat) : (xsT n ls)[i]? = (ls[i]?).map fun t => newS (n + i) 7 (chunksOf (t.l.map SnV.s)) := by
  induction ls generalizing n i with
  | nil => simp [xsT]
  | cons u ls ih =>
    cases i with
    | zero => simp [xsT]
    | succ i =>
      simp only [xsT, List.getElem?_cons_succ, ih]
      rw [show n + 1 + i = n + (i + 1) by omega]
theorem xsT_mem {n : Nat} {ls : List TnV} {y : Sp} (h : y ∈ xsT n ls) : ∃ i t, ls[i]? = some t ∧ y = newS (n + i) 7 (chunksOf (t.l.map SnV.s)) := by
  obtain ⟨i, hi, e⟩ := List.mem_iff_getElem.1 h
  have h2 := xsT_get n ls i
  rw [List.getElem?_eq_getElem hi] at h2
  cases hl : ls[i]? with
  | none => rw [hl] at h2; cases h2
  | some t =>
    rw [hl] at h2
    exact ⟨i, t, hl, by rw [← e]; exact Option.some.inj h2⟩
section
variable {B : Nat} {w0 : World} {ls : List TnV}
theorem xsT_one (h : ∀ t ∈ ls, TnOk B w0 t) (hl : ls.length ≤ 10) : ∀ y ∈ xsT 1 ls, One y ∧ (∀ c ∈ y.chunks, upOk c = true) ∧ y.n ≤ ls.length ∧ y.ep = 7 := by
  intro y hy
  obtain ⟨i, t, hi, rfl⟩ := xsT_mem hy
  have hil := (List.getElem?_eq_some_iff.1 hi).1
  have ht := h t (List.mem_of_getElem? hi)
  obtain ⟨_, h2, h3, _, _⟩ := One.light ht.er ht.wg (n := 1 + i) (ep := 7) (by omega) (by omega) (by decide)
  exact ⟨h2, h3, by show 1 + i ≤ _; omega, rfl⟩
theorem fSum_app (a b : List Fi) : fSum (a ++ b) = fSum a + fSum b := by simp [fSum]
theorem xsT_sum (h : ∀ t ∈ ls, TnOk B w0 t) (n : Nat) (h0 : 0 < n) (hn : n + ls.length ≤ 1000) : fSum (FX (xsT n ls)) ≤ 160200 * ls.length := by
  induction ls generalizing n with
  | nil => simp [xsT, FX, fSum]
  | cons t ls ih =>
    have ht := h t List.mem_cons_self
    have h1 := ih (fun u hu => h u (List.mem_cons_of_mem _ hu)) (n + 1) (by omega) (by simp at hn; omega)
    obtain ⟨_, _, _, _, h5⟩ := One.light ht.er ht.wg (n := n) (ep := 7) h0 (by simp at hn; omega) (by decide)
    rw [show xsT n (t :: ls) = [newS n 7 (chunksOf (t.l.map SnV.s))] ++ xsT (n + 1) ls from rfl, FX_app, fSum_app]
    simp only [List.length_cons]
    omega
end
theorem xsT_rise (n : Nat) (ls : List TnV) : (xsT n ls).Pairwise fun a b => a.n < b.n := by
  induction ls generalizing n with
  | nil => exact List.Pairwise.nil
  | cons t ls ih =>
    refine List.Pairwise.cons (fun y hy => ?_) (ih (n + 1))
    obtain ⟨i, u, _, rfl⟩ := xsT_mem hy
    show n < n + 1 + i
    omega
/-- The vault's side. -/
def TVv (w0 w : World) (k V b nf : Nat) (ls : List TnV) : Prop := ∃ vt vw th p, th.map SpV.s = xsT 1 ls ∧ VAt w0 w V k b nf p (9 : Int) vt vw th [] ∧ Has p (FX (xsT 1 ls)) ∧ p.room = 1048576
/-- The vault, and the law's list of what was put. -/
structure TV (w0 w : World) (k V b nf : Nat) (ls : List TnV) (va : Value) : Prop where
  v : TVv w0 w k V b nf ls
  row : Row 30 1 TnV.cs w0.heap.size w va ls
  ok : ∀ t ∈ ls, TnOk w0.heap.size w0 t
theorem Row.pt30 {w0 w w' : World} {V k b n : Nat} {p : Pd} {keep : Int} {vt vw vt' vw' va : Value} {th : List SpV} {ws : List ByteArray} {al : List TnV} {base : Nat} (hr : Row 30 1 TnV.cs base w va al) (h : VAt w0 w V k b n p keep vt vw th ws) (ht : PT V k b vt vw vt' vw' w w') : Row 30 1 TnV.cs base w' va al :=
  hr.back fun g e => by
    obtain ⟨cur, hc⟩ := hr.has g e
    have := hc.pt h ht (by decide) (by decide) (by decide) (by decide)
    unfold BoxT at this hc
    rw [this, hc]
section
variable {w0 w w' : World} {k V b nf : Nat} {ls : List TnV} {va vs : Value}
theorem TVv.below (H : TVv w0 w k V b nf ls) (hb : Below w.heap.size w w') : TVv w0 w' k V b nf ls := by
  obtain ⟨vt, vw, th, p, h1, h2, h3⟩ := H
  exact ⟨vt, vw, th, p, h1, h2.below hb, h3⟩
theorem TV.below (H : TV w0 w k V b nf ls va) (hb : Below w.heap.size w w') : TV w0 w' k V b nf ls va := ⟨H.v.below hb, H.row.below hb, H.ok⟩
theorem TV.since (H : TV w0 w k V b nf ls va) : Below w0.heap.size w0 w := by
  obtain ⟨vt, vw, th, p, h1, h2, h3⟩ := H.v
  exact h2.st.since
/-- A Put that is taken. -/
theorem TV.put (H : TV w0 w k V b nf ls va) (hg : Glob w0) {t : TnV} (ht : TnOk w0.heap.size w0 t) (hl : ls.length ≤ 5) (hnf : nf + 3000 ≤ 1000000) {vn : Int} (hvn : vn = ((ls.length + 1 : Nat) : Int)) :
    Calls Tryz.prog 13 #[.pointer (some ⟨V, 0, none⟩), .int .u64 vn, .int .u64 7, .slice t.a t.l.length t.c] w fun e w' => e = .returned (.int .i64 0) ∧ TVv w0 w' k V b (nf + 3000) (ls ++ [t]) ∧ Row 30 1 TnV.cs w0.heap.size w' va ls := by
  subst hvn
  obtain ⟨vt, vw, th, p, h1, h2, h3, h4⟩ := H.v
  have hsi := h2.st.since
  have hone := xsT_one H.ok (by omega)
  have hsum := xsT_sum H.ok 1 (by decide) (by omega)
  have hin : SnsIn w.heap.size w (.slice t.a t.l.length t.c) t.l := by
    have := ht.sn.below hsi
    exact ⟨this.row.mono hsi.size, fun x hx => (this.each x hx).mono hsi.size, this.pos⟩
  refine (put_x (kp := 9) h2 hg h1 h3 (fun y hy => (hone y hy).1) (by rw [xsT_len]; omega) (by decide) hin ht.er ht.wg (n := ls.length + 1) (ep := 7) (by omega) (by omega) (by decide) (fun y hy => by have := (hone y hy).2.2.1; omega) (by rw [h4]; omega) hnf).mono ?_
  rintro e w' ⟨rfl, p', vt', vw', th', g1, g2, g3, g4, g5⟩
  rw [xsT_len, show ls.length + 1 - 9 = 0 by omega, List.drop_zero] at g1 g3
  have ha : xsT 1 (ls ++ [t]) = xsT 1 ls ++ [newS (ls.length + 1) 7 (chunksOf (t.l.map SnV.s))] := by rw [xsT_app, Nat.add_comm 1]
  exact ⟨rfl, ⟨vt', vw', th', p', by rw [ha]; exact g1, g2, by rw [ha]; exact g3, by rw [g4, h4]⟩, H.row.pt30 h2 g5⟩
/-- A Put that is refused. -/
theorem TV.bad (H : TV w0 w k V b nf ls va) (hg : Glob w0) {t : TnV} (hsn : SnsIn w0.heap.size w0 (.slice t.a t.l.length t.c) t.l) (her : ∃ x ∈ t.l, sEr x.s ≠ 0) (hll : t.l.length ≤ 100000) (hl : ls.length ≤ 6) (hnf : nf + 3000 ≤ 1000000) {vn : Int} (hvn : vn = ((ls.length + 1 : Nat) : Int)) :
    Calls Tryz.prog 13 #[.pointer (some ⟨V, 0, none⟩), .int .u64 vn, .int .u64 7, .slice t.a t.l.length t.c] w fun e w' => ∃ er : Int, (er = 10 ∨ er = 12) ∧ e = .returned (.int .i64 er) ∧ TV w0 w' k V b (nf + 3000) ls va := by
  subst hvn
  obtain ⟨vt, vw, th, p, h1, h2, h3, h4⟩ := H.v
  have hsi := h2.st.since
  have hone := xsT_one H.ok (by omega)
  have hin : SnsIn w.heap.size w (.slice t.a t.l.length t.c) t.l := by
    have := hsn.below hsi
    exact ⟨this.row.mono hsi.size, fun x hx => (this.each x hx).mono hsi.size, this.pos⟩
  refine (put_bad (kp := 9) h2 hg h1 (fun y hy => (hone y hy).1) (by rw [xsT_len]; omega) (by decide) (by simp) (fun s hs => by cases hs) hin her hll (n := ls.length + 1) (ep := 7) (by omega) (by decide) hnf).mono ?_
  rintro e w' ⟨er, he, rfl, vt', vw', th', g1, g2, g5⟩
  exact ⟨er, he, rfl, ⟨vt', vw', th', p, g1, g2, h3, h4⟩, H.row.pt30 h2 g5, H.ok⟩
end
end Go.Proofs.YtbfhcbihgleddaaGreatDoor

/-
  Texts of the vault, in build order: VWorld, VKnown, VClean, VKeepP.
-/
import Derived.Test.YtbfhcbihgleddaaGreatDoorM37
import Derived.Test.YtbfhcbihgleddaaGreatDoorM35
import Derived.Test.YtbfhcbihgleddaaGreatDoorM34
import Derived.Test.YtbfhcbihgleddaaGreatDoorM32
/-
  The law's world beside a vault and its disk: what stays where.
-/
namespace Go.Proofs.YtbfhcbihgleddaaGreatDoor
open Go.RowKit

theorem BoxT.apart {t t2 k g : Nat} {w : World} {ca cb : Array Value} (h : BoxT t w k ca) (h2 : BoxT t2 w g cb) (ht : t ≠ t2) : k ≠ g := by
  rintro rfl
  unfold BoxT at h h2
  rw [h] at h2
  simp at h2
  exact ht h2.2
theorem BoxT.turned {t k b g : Nat} {w w' : World} {cs : Array Value} (h : BoxT t w g cs) (ht : Turned k b w w') (h1 : g ≠ k) (h2 : g ≠ b) : BoxT t w' g cs := by
  have := h.lt
  unfold BoxT at *
  rw [ht.block g this h1 h2]; exact h
theorem BoxT.belowT {t g : Nat} {w w' : World} {cs : Array Value} (h : BoxT t w g cs) (hb : Below w.heap.size w w') : BoxT t w' g cs := by
  have := h.lt
  unfold BoxT at *
  rw [hb.block g this]; exact h
section
variable {w0 w w' : World} {V k b n : Nat} {p : Pd} {keep : Int} {vt vw vt' vw' : Value} {th : List SpV} {ws : List ByteArray} {B t : Nat} {cs : Array Value}
/-- Another box stays behind a Put. -/
theorem BoxT.pt (hB : BoxT t w B cs) (h : VAt w0 w V k b n p keep vt vw th ws) (ht : PT V k b vt vw vt' vw' w w') (h1 : t ≠ 78) (h2 : t ≠ 81) (h3 : t ≠ 84) (h4 : t ≠ 9) : BoxT t w' B cs := by
  have hne : w'.heap[B]? = w.heap[B]? := ht.block B hB.lt (hB.apart h.st.d.at_.box h1) (BoxT.notMap hB h.st.d.at_.map) (hB.apart h.box h2)
    (fun e => by obtain ⟨cur, hc⟩ := h.tr.has B e; exact hB.apart hc h3 rfl) (fun e => by obtain ⟨cur, hc⟩ := h.wr.has B e; exact hB.apart hc h4 rfl)
  unfold BoxT at *
  rw [hne]; exact hB
theorem row_box {t2 sz base m : Nat} {v : Value} {xs : List Value} (hr : w.ownsRow base t2 sz v m xs) (hB : BoxT t w B cs) (ht : Turned B B w w') (h1 : t ≠ t2) : w'.ownsRow base t2 sz v m xs :=
  row_back hr fun g e => by
    obtain ⟨cur, hc⟩ := row_has hr g e
    have hne := (hB.apart (show BoxT t2 w g cur from hc) h1).symm
    exact ht.block g (Array.getElem?_eq_some_iff.1 hc).1 hne hne
/-- A vault stays where another box is written. -/
theorem VAt.law (h : VAt w0 w V k b n p keep vt vw th ws) (hB : BoxT t w B cs) (hb : w0.heap.size ≤ B) (ht : Turned B B w w') (h1 : t ≠ 78) (h2 : t ≠ 81) (h3 : t ≠ 84) (h4 : t ≠ 9) (h5 : t ≠ 22) (h6 : t ≠ 5) : VAt w0 w' V k b n p keep vt vw th ws := by
  have hk := (hB.apart h.st.d.at_.box h1).symm
  have hV := (hB.apart h.box h2).symm
  refine ⟨h.st.other' ht hk (BoxT.notMap hB h.st.d.at_.map).symm hb, h.box.turned ht hV hV, h.tr.back (fun g e => ?_), h.wr.back (fun g e => ?_), fun x hx => ⟨row_box (h.oks x hx).p hB ht h4, row_box (h.oks x hx).c hB ht h5, fun c hc => row_box ((h.oks x hx).ks c hc) hB ht h6⟩, h.far, h.lV⟩
  · obtain ⟨cur, hc⟩ := h.tr.has g e
    have hne := (hB.apart hc h3).symm
    exact ht.block g hc.lt hne hne
  · obtain ⟨cur, hc⟩ := h.wr.has g e
    have hne := (hB.apart hc h4).symm
    exact ht.block g hc.lt hne hne
end
/-- The law's world, as it lies: the disk, the vault, keep, the list, the list that may be, the greatest number, cut, dead, fine. -/
def wld (k : Nat) (vv : Value) (kp : Int) (l mb top cut dead fine : Value) : Array Value := #[.pointer (some ⟨k, 0, none⟩), vv, .int .i64 kp, l, mb, top, cut, dead, fine]
theorem wld_cells {w : World} {B k : Nat} {vv l mb top cut dead fine : Value} {kp : Int} (h : BoxT 52 w B (wld k vv kp l mb top cut dead fine)) :
    w.cell? ⟨B, 0, none⟩ = some (.pointer (some ⟨k, 0, none⟩)) ∧ w.cell? ⟨B, 1, none⟩ = some vv ∧ w.cell? ⟨B, 2, none⟩ = some (.int .i64 kp) ∧ w.cell? ⟨B, 3, none⟩ = some l ∧ w.cell? ⟨B, 4, none⟩ = some mb ∧ w.cell? ⟨B, 5, none⟩ = some top ∧ w.cell? ⟨B, 6, none⟩ = some cut ∧ w.cell? ⟨B, 7, none⟩ = some dead ∧ w.cell? ⟨B, 8, none⟩ = some fine := by
  unfold BoxT wld at h
  simp [World.cell?, h]
set_option maxHeartbeats 1000000 in
set_option maxRecDepth 100000 in
theorem open_ok {w0 w : World} {B k b n : Nat} {p : Pd} {vv l mb top dead : Value} {kp : Int} (h : St w0 w k b n p) (hg : Glob w0) (h0 : p.left ≠ 0) (hnm : ∀ s ∈ p.l.map Fi.n, s.length ≤ 100) (hln : p.l.length ≤ 1000)
    (hfo : ∀ x ∈ foundS p ((p.l.map Fi.n).map mkS), x.n < 18446744073709551616 ∧ x.parts.length ≤ 900 ∧ ∀ s ∈ x.parts, s.size ≤ maxLen)
    (hB : BoxT 52 w B (wld k vv kp l mb top (.bool false) dead (.bool true))) (hBl : w0.heap.size ≤ B) :
    Calls Tryz.prog 31 #[.pointer (some ⟨B, 0, none⟩)] w fun e w' => e = .returned (.tuple #[]) ∧ ∃ V vt vw th, BoxT 52 w' B (wld k (.pointer (some ⟨V, 0, none⟩)) kp l mb top (.bool false) dead (.bool true)) ∧ VAt w0 w' V k b n p (max kp 1) vt vw th (wst (fls th) ((p.l.map Fi.n).map mkS)) ∧ (th.map SpV.s).Perm (foundS p ((p.l.map Fi.n).map mkS)) ∧ Rises th ∧ Turned B B w w' := by
  have hop := hide (VOpen_any (h.below ((Below.refl _ _).drew)) hg kp h0 hnm hln hfo)
  obtain ⟨c0, c1, c2, c3, c4, c5, c6, c7, c8⟩ := wld_cells hB
  have hbl := hB.lt
  have HB := hide hB
  clear h h0 hnm hln hfo hB hg
  go_enter Tryz.func31, Tryz.ntmps31
  go_wp2_with fail
  go_region_law (go_simp; go_at_call 12; refine hop.out.mono ?_; rintro e w2 ⟨V, vt, vw, th, rfl, hv, hp, hr, b2⟩; have B2 := hide (((Below.refl w.heap.size w).drew).trans b2); have HV := hide (And.intro hv (And.intro hp hr)); have X2 := hide (HB.out.belowT B2.out); obtain ⟨d0, d1, d2, d3, d4, d5, d6, d7, d8⟩ := wld_cells X2.out; have df := X2.out.free; clear hv hp hr b2)
  all_goals
    go_wp2_with fail
    go_end0
    have hX : BoxT 52 ((w2.setCell ⟨B, 1, none⟩ (.pointer (some ⟨V, 0, none⟩))).setCell ⟨B, 8, none⟩ (.bool true)) B (wld k (.pointer (some ⟨V, 0, none⟩)) kp l mb top (.bool false) dead (.bool true)) := by
      simpa [wld] using (X2.out.set 1 (.pointer (some ⟨V, 0, none⟩))).set 8 (.bool true)
    have hT : Turned B B w2 ((w2.setCell ⟨B, 1, none⟩ (.pointer (some ⟨V, 0, none⟩))).setCell ⟨B, 8, none⟩ (.bool true)) := (Turned.set B B _ 1 _).trans (Turned.set B B _ 8 _)
    exact ⟨rfl, V, vt, vw, th, hX, HV.out.1.law X2.out hBl hT (by decide) (by decide) (by decide) (by decide) (by decide) (by decide), HV.out.2.1, HV.out.2.2, (Turned.below B2.out).trans hT⟩
set_option maxHeartbeats 1000000 in
set_option maxRecDepth 100000 in
theorem begun_any (w : World) (hg : Glob w) (kp : Int) :
    Calls Tryz.prog 17 #[.int .i64 kp] w fun e w' => ∃ B k V b vt vw, e = .returned (.pointer (some ⟨B, 0, none⟩)) ∧ w.heap.size ≤ B ∧ BoxT 52 w' B (wld k (.pointer (some ⟨V, 0, none⟩)) (max kp 1) (.slice none 0 0) (.slice none 0 0) (.int .u64 0) (.bool false) (.bool false) (.bool true)) ∧ VAt w w' V k b 0 ⟨[], 1048576, -1⟩ (max kp 1) vt vw [] [] ∧ Below w.heap.size w w' := by
  have hnew := hide (kNew w w (Below.refl _ _) 1048576 (by decide))
  have hmm : max (max kp 1) 1 = max kp 1 := by omega
  go_enter Tryz.func17, Tryz.ntmps17
  go_wp2_with (first | (go_at_call 11; refine hnew.out.mono ?_; rintro e w2 ⟨k, b, rfl, h2, hk, hb, b2⟩; have H2 := hide h2; have B2 := hide b2; clear h2 b2) | fail)
  have h3 := H2.out.below (w' := w2.alloc (.cells (wld k (.pointer none) (max kp 1) (.slice none 0 0) (.slice none 0 0) (.int .u64 0) (.bool false) (.bool false) (.bool true)) 52)) ((Below.refl _ _).alloc (Nat.le_refl _) _)
  have x3 : BoxT 52 (w2.alloc (.cells (wld k (.pointer none) (max kp 1) (.slice none 0 0) (.slice none 0 0) (.int .u64 0) (.bool false) (.bool false) (.bool true)) 52)) w2.heap.size (wld k (.pointer none) (max kp 1) (.slice none 0 0) (.slice none 0 0) (.int .u64 0) (.bool false) (.bool false) (.bool true)) := BoxT.new _ _ _
  have hop := open_ok h3 hg (by decide) (fun s hs => by cases hs) (by simp) (fun x hx => by cases hx) x3 B2.out.size
  refine hop.mono ?_
  rintro e w4 ⟨rfl, V, vt, vw, th, x4, v4, p4, r4, t4⟩
  have hth : th = [] := by
    have := p4.length_eq
    simp [foundS] at this
    exact this
  subst hth
  rw [hmm] at v4
  have hb4 : Below w.heap.size w w4 := by
    have hs2 := B2.out.size
    have hb3 := B2.out.alloc B2.out.size (.cells (wld k (.pointer none) (max kp 1) (.slice none 0 0) (.slice none 0 0) (.int .u64 0) (.bool false) (.bool false) (.bool true)) 52)
    exact ⟨t4.os.trans hb3.os, t4.tape.trans hb3.tape, t4.output.trans hb3.output, Nat.le_trans hb3.size t4.size, fun i hi => (t4.block i (Nat.lt_of_lt_of_le hi hb3.size) (by omega) (by omega)).trans (hb3.block i hi)⟩
  have HF := hide (And.intro x4 (And.intro v4 hb4))
  have hB2 := B2.out.size
  clear x4 v4 p4 r4 t4 hop h3 x3 hb4
  go_wp2
  go_ret
  exact ⟨_, k, V, b, vt, vw, rfl, hB2, HF.out.1, HF.out.2.1, HF.out.2.2⟩
end Go.Proofs.YtbfhcbihgleddaaGreatDoor
/-
  The law's known over the vault, walked.
-/
namespace Go.Proofs.YtbfhcbihgleddaaGreatDoor
open Go.RowKit

def ksv : SnV := ⟨ks, none, 0, none, 0, none, 0⟩
def kcs : Array Value := #[.int .i64 1, .int .i64 2, .int .i64 0, .slice none 0 0, .slice none 0 0, .slice none 0 0]
theorem ksIn {w : World} {g : Nat} (h : BoxT 27 w g kcs) : SnsIn w.heap.size w (.slice (some ⟨g, 0, none⟩) 1 1) [ksv] := by
  refine ⟨⟨_, _, rfl, by simp, .inr ⟨g, 0, rfl, h.lt, fun i x hx j u hu => ?_⟩⟩, fun x hx => ?_, fun x hx o ho => ?_⟩
  · have hi : i = 0 := by have := (List.getElem?_eq_some_iff.1 hx).1; simp at this; omega
    subst hi
    obtain rfl : ksv = x := by simpa using hx
    rw [h.cellAt, Nat.zero_mul, Nat.add_zero, Nat.zero_add]
    match j, hu with
    | 0, hu | 1, hu | 2, hu | 3, hu | 4, hu | 5, hu => simpa [SnV.cs, ksv, ks, kcs] using hu
  · rcases List.mem_singleton.1 hx with rfl
    exact ⟨⟨none, 0, rfl, by simp [ksv, ks], .inl rfl⟩, ⟨none, 0, rfl, by simp [ksv, ks], .inl rfl⟩, ⟨none, 0, rfl, by simp [ksv, ks], .inl rfl⟩⟩
  · rcases List.mem_singleton.1 hx with rfl
    simp [ksv, ks] at ho
theorem hx_of {th : List SpV} {l : List Sp} (h : th.map SpV.s = l) (hl : ∀ y ∈ l, y.n < 18446744073709551616 ∧ y.parts.length ≤ 900 ∧ ∀ s ∈ y.parts, s.size ≤ 100) : ∀ x ∈ th, x.n < 18446744073709551616 ∧ x.parts.length ≤ 900 ∧ ∀ s ∈ x.parts, s.size ≤ 100 :=
  fun x hx => hl x.s (by rw [← h]; exact List.mem_map.2 ⟨x, hx, rfl⟩)
theorem ksn_fine (n ep : Nat) (c : UInt8) (hn : n < 18446744073709551616) : (ksn n ep c).n < 18446744073709551616 ∧ (ksn n ep c).parts.length ≤ 900 ∧ ∀ s ∈ (ksn n ep c).parts, s.size ≤ 100 :=
  ⟨hn, by simp [ksn], fun s hs => by rcases List.mem_singleton.1 hs with rfl; show 16 ≤ 100; decide⟩
theorem len_of {th : List SpV} {l : List Sp} (h : th.map SpV.s = l) : th.length = l.length := by rw [← h, List.length_map]
/-- In the midst of known. -/
structure KI (w0 w : World) (B k V b nf g : Nat) (p : Pd) (sth : List Sp) : Prop where
  va : ∃ vt vw th, th.map SpV.s = sth ∧ VAt w0 w V k b nf p 2 vt vw th []
  box : BoxT 52 w B (wld k (.pointer (some ⟨V, 0, none⟩)) 2 (.slice none 0 0) (.slice none 0 0) (.int .u64 0) (.bool false) (.bool false) (.bool true))
  sn : BoxT 27 w g kcs
  at_ : w0.heap.size ≤ B
theorem KI.put {w0 w : World} {B k V b nf g : Nat} {p : Pd} {sth : List Sp} (H : KI w0 w B k V b nf g p sth) (hg : Glob w0) (n ep : Nat) (hn : n < 18446744073709551616) (he : ep < 18446744073709551616) (hnf : nf + 3000 ≤ 1000000)
    (hlen : sth.length ≤ 900) (hfine : ∀ y ∈ sth, y.n < 18446744073709551616 ∧ y.parts.length ≤ 900 ∧ ∀ s ∈ y.parts, s.size ≤ 100) {p' : Pd} {er : Int} {sth' : List Sp} (hR : pPut 2 p sth [] n ep ([kc], 0) = (p', er, sth', [])) :
    Calls Tryz.prog 13 #[.pointer (some ⟨V, 0, none⟩), .int .u64 n, .int .u64 ep, .slice (some ⟨g, 0, none⟩) 1 1] w fun e w' => e = .returned (.int .i64 er) ∧ KI w0 w' B k V b (nf + 3000) g p' sth' := by
  obtain ⟨vt, vw, th, hth, va⟩ := H.va
  refine (Put_any va hg n ep hn he _ [ksv] (ksIn H.sn) (by simp) (by rw [show ([ksv].map SnV.s) = [ks] from rfl, kpk]; simp) (by decide) (by rw [len_of hth]; exact hlen) (hx_of hth hfine) (by simp) (fun s hs => by cases hs) hnf p' er sth' [] (by rw [hth, show ([ksv].map SnV.s) = [ks] from rfl, kpk]; exact hR)).mono ?_
  rintro e w' ⟨rfl, vt', vw', th', h1, h2, h3⟩
  exact ⟨rfl, ⟨vt', vw', th', h1, h2⟩, H.box.pt va h3 (by decide) (by decide) (by decide) (by decide), H.sn.pt va h3 (by decide) (by decide) (by decide) (by decide), H.at_⟩
theorem KI.below {w0 w w' : World} {B k V b nf g : Nat} {p : Pd} {sth : List Sp} (H : KI w0 w B k V b nf g p sth) (hb : Below w.heap.size w w') : KI w0 w' B k V b nf g p sth := by
  obtain ⟨vt, vw, th, hth, va⟩ := H.va
  exact ⟨⟨vt, vw, th, hth, va.below hb⟩, H.box.belowT hb, H.sn.belowT hb, H.at_⟩
theorem KI.cell {w0 w : World} {B k V b nf g : Nat} {p : Pd} {sth : List Sp} (H : KI w0 w B k V b nf g p sth) : w.cell? ⟨B, 1, none⟩ = some (.pointer (some ⟨V, 0, none⟩)) := (wld_cells H.box).2.1
theorem KI.since {w0 w : World} {B k V b nf g : Nat} {p : Pd} {sth : List Sp} (H : KI w0 w B k V b nf g p sth) : Below w0.heap.size w0 w := by
  obtain ⟨vt, vw, th, hth, va⟩ := H.va
  exact va.st.since
theorem fine1 : ∀ y ∈ [ksn 1 1 49], y.n < 18446744073709551616 ∧ y.parts.length ≤ 900 ∧ ∀ s ∈ y.parts, s.size ≤ 100 := fun y hy => by
  rcases List.mem_singleton.1 hy with rfl
  exact ksn_fine 1 1 49 (by decide)
theorem fine2 {a ea b eb : Nat} {ca cb : UInt8} (ha : a < 18446744073709551616) (hb : b < 18446744073709551616) : ∀ y ∈ [ksn a ea ca, ksn b eb cb], y.n < 18446744073709551616 ∧ y.parts.length ≤ 900 ∧ ∀ s ∈ y.parts, s.size ≤ 100 := fun y hy => by
  rcases List.mem_cons.1 hy with rfl | hy
  · exact ksn_fine a ea ca ha
  · rcases List.mem_singleton.1 hy with rfl
    exact ksn_fine b eb cb hb
theorem two_of {th : List SpV} {a c : Sp} (hp : (th.map SpV.s).Perm [a, c]) (hr : Rises th) (hac : a.n < c.n) : th.map SpV.s = [a, c] := by
  have hl : th.length = 2 := by have := hp.length_eq; simpa using this
  match th, hl, hp, hr with
  | [x, y], _, hp, hr =>
    have hx : x.s ∈ [a, c] := hp.subset (by simp)
    rcases List.mem_cons.1 hx with e | hx
    · have h2 : [y.s].Perm [c] := by
        have : (x.s :: [y.s]).Perm (a :: [c]) := hp
        rw [e] at this
        exact this.cons_inv
      have h3 : y.s ∈ [c] := h2.subset (by simp)
      rcases List.mem_singleton.1 h3 with h3
      show [x.s, y.s] = _
      rw [e, h3]
    · rcases List.mem_singleton.1 hx with e
      have h2 : [y.s].Perm [a] := by
        have : (x.s :: [y.s]).Perm (c :: [a]) := hp.trans (List.Perm.swap _ _ _)
        rw [e] at this
        exact this.cons_inv
      have h3 : y.s ∈ [a] := h2.subset (by simp)
      rcases List.mem_singleton.1 h3 with h3
      have h4 := hr 0 1 x y (by decide) rfl rfl
      have h5 : x.n = c.n := congrArg Sp.n e
      have h6 : y.n = a.n := congrArg Sp.n h3
      omega
def kp5 : Pd := ⟨[kfp 50, kfp 53, kw2, kw5], 1048576, -1⟩
theorem kcrash5 : pCrash kp5 [] = kp5 := by kernel_rfl
theorem kfound5 : foundS kp5 ((kp5.l.map Fi.n).map mkS) = [ksn 2 1 50, ksn 5 2 53] := kfound
theorem knames5 : ∀ s ∈ kp5.l.map Fi.n, s.length ≤ 100 := by decide
theorem kc_byts : Byts kc := fun i x h => by
  have hall : ∀ y ∈ kc, y < 256 := by decide
  exact hall x (List.mem_of_getElem? h)
set_option maxHeartbeats 4000000 in
set_option maxRecDepth 100000 in
theorem known_any (w : World) (hg : Glob w) : Calls Tryz.prog 9 #[] w fun e w' => e = .returned (.bool true) ∧ Below w.heap.size w w' := by
  go_enter Tryz.func9, Tryz.ntmps9
  go_wp2_with fail
  go_at_call 17
  refine (begun_any w hg 2).mono ?_
  rintro e w1 ⟨B, k, V, b, vt, vw, rfl, hB, x1, v1, b1⟩
  rw [show max (2 : Int) 1 = 2 from rfl] at x1 v1
  obtain ⟨c0, c1, c2, c3, c4, c5, c6, c7, c8⟩ := wld_cells x1
  have ba : Below w1.heap.size w1 (w1.alloc (.cells kcs 27)) := (Below.refl _ _).alloc (Nat.le_refl _) _
  have H1 : Hid (KI w (w1.alloc (.cells kcs 27)) B k V b 0 w1.heap.size kp0 []) := ⟨⟨vt, vw, [], rfl, v1.below ba⟩, x1.belowT ba, BoxT.new _ _ _, hB⟩
  have B1 := hide (b1.trans (ba.mono b1.size))
  clear x1 v1 b1 ba
  go_wp2_with fail
  simp only [kcs] at H1 B1
  generalize w1.alloc (.cells #[.int .i64 1, .int .i64 2, .int .i64 0, .slice none 0 0, .slice none 0 0, .slice none 0 0] 27) = w2 at *
  generalize w1.heap.size = g at *
  clear c0 c1 c2 c3 c4 c5 c6 c7 c8
  have y1 := H1.out.cell
  have hP1 := hide ((H1.out.below ((Below.refl _ _).drew)).put hg 1 1 (by decide) (by decide) (by decide) (by simp) (fun y hy => by cases hy) kput1)
  go_region_held3 (fun w' => w'.cell? ⟨B, 1, none⟩ = some (.pointer (some ⟨V, 0, none⟩))) (first | go_keep | exact y1 | exact y2 | exact y3 | exact y4)
    (first
      | (go_at_call 13; refine hP1.out.mono ?_; clear hP1; rintro e w3 ⟨rfl, h3⟩; have K3 := hide h3; have y2 := h3.cell; have hP2 := hide (h3.put hg 2 1 (by decide) (by decide) (by decide) (by simp) fine1 kput2); clear h3)
      | (go_at_call 13; refine hP2.out.mono ?_; clear hP2; rintro e w4 ⟨rfl, h4⟩; have K4 := hide h4; have y3 := h4.cell; have hP3 := hide (h4.put hg 5 2 (by decide) (by decide) (by decide) (by simp) (fine2 (by decide) (by decide)) kput5); clear h4)
      | (go_at_call 13; refine hP3.out.mono ?_; clear hP3; rintro e w5 ⟨rfl, h5⟩; have K5 := hide h5; have y4 := h5.cell; have hP4 := hide (h5.put hg 5 2 (by decide) (by decide) (by decide) (by simp) (fine2 (by decide) (by decide)) kput6); clear h5))
  go_wp2_with (first | (go_at_call 13; refine hP4.out.mono ?_; rintro e w6 ⟨rfl, h6⟩; have K6 := hide h6; have y5 := h6.cell; have y6 := (wld_cells h6.box).1; clear h6) | fail)
  clear hP4 K3 K4 K5 H1 y1 y2 y3 y4 B1
  obtain ⟨vt6, vw6, th6, hth6, va6⟩ := K6.out.va
  have hcr := kCrash va6.st (.slice none 0 0) [] (fun w' _ => ⟨none, 0, rfl, by simp, .inl rfl⟩) kp5 kcrash5
  refine hcr.mono ?_
  rintro e w7 ⟨rfl, s7, t7⟩
  have x7 := box_kb va6.st t7 K6.out.box (by decide)
  have hop := hide (open_ok s7 hg (by decide) knames5 (by decide) (by rw [kfound5]; exact fun x hx => (fine2 (by decide) (by decide) x hx).imp id fun h => h.imp id fun h s hs => Nat.le_trans (h s hs) (by unfold maxLen; omega)) x7 K6.out.at_)
  clear hcr va6 hth6 K6 s7 t7 x7 y5 y6
  go_wp2_with (first | (go_at_call 31; refine hop.out.mono ?_; clear hop; rintro e w8 ⟨rfl, V8, vt8, vw8, th8, x8, v8, p8, r8, t8⟩; rw [kfound5] at p8; have hth8 := two_of p8 r8 (by decide); obtain ⟨c0, c1, c2, c3, c4, c5, c6, c7, c8⟩ := wld_cells x8; have HV8 := hide v8; have HX8 := hide x8; have HT8 := hide hth8; clear t8 p8 r8 v8 x8 hth8) | fail)
  have hl8 : th8.length = 2 := by rw [len_of HT8.out]; rfl
  obtain ⟨x, y, rfl⟩ : ∃ x y, th8 = [x, y] := by
    match th8, hl8 with
    | [x, y], _ => exact ⟨x, y, rfl⟩
  have hx : x.s = ksn 2 1 50 := by have := HT8.out; simp only [List.map_cons, List.map_nil, List.cons.injEq] at this; exact this.1
  have hy : y.s = ksn 5 2 53 := by have := HT8.out; simp only [List.map_cons, List.map_nil, List.cons.injEq] at this; exact this.2.1
  have hxn : x.n = 2 := congrArg Sp.n hx
  have hyn : y.n = 5 := congrArg Sp.n hy
  have hye : y.ep = 2 := congrArg Sp.ep hy
  have hyc : y.ck.map Ck.l = [kc] := congrArg Sp.chunks hy
  have hsrt : Srt [x, y] := fun i j u v hij hu hv => by
    have hj := (List.getElem?_eq_some_iff.1 hv).1
    simp at hj
    obtain rfl : j = 1 := by omega
    obtain rfl : i = 0 := by omega
    obtain rfl : x = u := by simpa using hu
    obtain rfl : y = v := by simpa using hv
    omega
  have hli := list_any HV8.out (by simp)
  refine hli.mono ?_
  rintro e w9 ⟨rfl, n9⟩
  have V9 := hide (HV8.out.below n9.bel)
  have X9 := hide (HX8.out.belowT n9.bel)
  obtain ⟨cs9, bx9, sz9, ge9⟩ := n9.box
  have BX9 := hide bx9
  have e0 : cs9[0]? = some (.int .u64 2) := by rw [ge9 0 x (by simp) rfl, hxn]; rfl
  have e1 : cs9[1]? = some (.int .u64 5) := by rw [ge9 1 y (by simp) rfl, hyn]; rfl
  have hS9 := n9.bel.size
  have c9 := (wld_cells X9.out).2.1
  have hge := hide (get_any V9.out hg (by simp) hsrt y (by simp) (fun c hc => by
    have hm : c.l ∈ y.ck.map Ck.l := List.mem_map.2 ⟨c, hc, rfl⟩
    rw [hyc] at hm
    rcases List.mem_singleton.1 hm with hm
    rw [hm]
    exact ⟨by decide, kc_byts⟩) (by have := congrArg List.length hyc; simp at this; omega) (by rw [hyc, kgot]; decide))
  rw [hyc, hyn, hye] at hge
  clear hli n9 bx9 sz9 ge9 c0 c1 c2 c3 c4 c5 c6 c7 c8 HV8 HX8 HT8 hl8
  generalize w8.heap.size = G at *
  go_wp2_with (first | (go_at_call 25; refine hge.out.mono ?_; clear hge; rintro e w10 ⟨v10, xs10, rfl, g10⟩; have V10 := hide (V9.out.below g10.bel); have X10 := hide (X9.out.belowT g10.bel); have c10 := (wld_cells X10.out).2.1; have BX10 := hide (BX9.out.belowT g10.bel); have G10 := hide g10; obtain ⟨a10, k10, hv10⟩ := g10.own.shape; subst hv10; have hgn := hide (getN_any V10.out (by simp) hsrt 1 (fun z hz => (by rcases List.mem_cons.1 hz with rfl | hz; omega; rcases List.mem_singleton.1 hz with rfl; omega))); clear g10) | fail)
  have hxs : xs10.map SnV.s = [ks] := by rw [G10.out.is, kgot]
  obtain ⟨z, rfl⟩ : ∃ z, xs10 = [z] := by
    have hl := congrArg List.length hxs
    match xs10, hl with
    | [z], _ => exact ⟨z, rfl⟩
  have hz : z.s = ks := by simpa using hxs
  obtain ⟨g1, cap1, hv1, hc1⟩ := G10.out.own.put (by simp)
  cases hv1
  have f10 : w10.cell? ⟨g1, 1, none⟩ = some (.int .i64 2) := by
    have := hc1 1 (.int .i64 z.s.off) rfl
    rw [hz] at this
    exact this
  have hgl := World.block_lt_of_cell? w10 _ f10
  have hBs := V10.out.st.since
  refine hgn.out.mono ?_
  rintro e w11 ⟨rfl, b11⟩
  have f11 : w11.cell? ⟨g1, 1, none⟩ = some (.int .i64 2) := (b11.cell (p := ⟨g1, 1, none⟩) hgl).trans f10
  have x11 := BX10.out.belowT b11
  have g0 : w11.cell? ⟨G, 0, none⟩ = some (.int .u64 2) := (x11.cellAt 0).trans e0
  have g2 : w11.cell? ⟨G, 1, none⟩ = some (.int .u64 5) := (x11.cellAt 1).trans e1
  have HF := hide (hBs.trans (b11.mono hBs.size))
  clear hgn G10 hc1 hxs hz V10 X10 BX10 BX9 b11 x11 f10 hBs
  go_wp2
  go_ret
  exact ⟨rfl, HF.out⟩
end Go.Proofs.YtbfhcbihgleddaaGreatDoor
/-
  The disk under a vault, up to the order of its files: what each call makes of it.
-/
namespace Go.Proofs.YtbfhcbihgleddaaGreatDoor

/-- The disk has just the files F, and power without end. -/
structure Has (p : Pd) (F : List Fi) : Prop where
  perm : p.l.Perm F
  left : p.left = -1
  nodup : (F.map Fi.n).Nodup
theorem fIns_perm (f : Fi) (l : List Fi) : (fIns f l).Perm (f :: l) := by
  induction l with
  | nil => exact List.Perm.refl _
  | cons g l ih =>
    rw [fIns]
    split
    · exact List.Perm.refl _
    · exact (ih.cons g).trans (List.Perm.swap f g l)
theorem fGet_nodup {l : List Fi} (h : (l.map Fi.n).Nodup) {f : Fi} (hf : f ∈ l) : fGet f.n l = some f := by
  unfold fGet
  induction l with
  | nil => cases hf
  | cons a l ih =>
    rw [List.map_cons, List.nodup_cons] at h
    rcases List.mem_cons.1 hf with rfl | hf
    · simp
    · have hne : (a.n == f.n) = false := by
        rw [beq_eq_false_iff_ne]
        intro e
        exact h.1 (List.mem_map.2 ⟨f, hf, e.symm⟩)
      rw [List.find?_cons, hne]
      exact ih h.2 hf
theorem fGet_out {l : List Fi} {s : List UInt8} (h : s ∉ l.map Fi.n) : fGet s l = none := by
  unfold fGet
  rw [List.find?_eq_none]
  intro f hf e
  exact h (List.mem_map.2 ⟨f, hf, by simpa using e⟩)
section
variable {p : Pd} {F G : List Fi}
theorem Has.names (h : Has p F) : (p.l.map Fi.n).Perm (F.map Fi.n) := h.perm.map _
theorem Has.out (h : Has p F) {s : List UInt8} (hs : s ∉ F.map Fi.n) : s ∉ p.l.map Fi.n := fun hm => hs (h.names.subset hm)
theorem Has.get (h : Has p F) {f : Fi} (hf : f ∈ F) : fGet f.n p.l = some f := fGet_nodup (h.names.nodup_iff.2 h.nodup) (h.perm.symm.subset hf)
theorem Has.none (h : Has p F) {s : List UInt8} (hs : s ∉ F.map Fi.n) : fGet s p.l = Option.none := fGet_out (h.out hs)
theorem fSum_perm {a b : List Fi} (h : a.Perm b) : fSum a = fSum b := by
  unfold fSum
  exact (h.map _).sum_nat
theorem Has.sum (h : Has p F) : fSum p.l = fSum F := fSum_perm h.perm
theorem Has.re (h : Has p F) (hp : F.Perm G) : Has p G := ⟨h.perm.trans hp, h.left, (hp.map Fi.n).nodup_iff.1 h.nodup⟩
theorem fDel_out {l : List Fi} {s : List UInt8} (h : s ∉ l.map Fi.n) : fDel s l = l := fDel_none (fun f hf e => h (List.mem_map.2 ⟨f, hf, e⟩))
theorem fDel_perm {a b : List Fi} (h : a.Perm b) (s : List UInt8) : (fDel s a).Perm (fDel s b) := h.filter _
theorem fDel_cons {f : Fi} {l : List Fi} (h : f.n ∉ l.map Fi.n) : fDel f.n (f :: l) = l := by
  have h1 := fDel_out h
  unfold fDel at *
  rw [List.filter_cons]
  simp only [beq_self_eq_true, Bool.not_true]
  exact h1
theorem done_inf {p : Pd} (h : p.left = -1) : p.done.left = -1 := by unfold Pd.done; simp [h]
/-- A new file. -/
theorem Has.write (h : Has p F) {s : List UInt8} {x : List Nat} (hs : s ∉ F.map Fi.n) (hn : okName s = true) (hr : (fSum F : Int) + x.length ≤ p.room) (hx : x.length ≤ 1048576) : ∃ p', pWrite p s x = (p', 0) ∧ Has p' (⟨s, x, 0⟩ :: F) ∧ p'.room = p.room := by
  have h0 : ¬ (p.left = 0) := by rw [h.left]; decide
  have hw : fWas s p.l = 0 := by unfold fWas; rw [h.none hs]
  have hsum := h.sum
  have hp : pWrite p s x = (({ p with l := fPut ⟨s, x, 0⟩ p.l } : Pd).done, 0) := by
    unfold pWrite
    rw [if_neg h0, if_neg (by rw [hn]; decide), if_neg (by rw [hw]; omega)]
  refine ⟨_, hp, ⟨?_, done_inf (p := { p with l := fPut ⟨s, x, 0⟩ p.l }) h.left, ?_⟩, rfl⟩
  · show (fPut ⟨s, x, 0⟩ p.l).Perm _
    unfold fPut
    rw [fDel_out (h.out hs)]
    exact (fIns_perm _ _).trans (h.perm.cons _)
  · rw [List.map_cons, List.nodup_cons]
    exact ⟨hs, h.nodup⟩
theorem Has.sync {s : List UInt8} {x : List Nat} {y : Nat} (h : Has p (⟨s, x, y⟩ :: F)) : ∃ p', pSync p s = (p', 0) ∧ Has p' (⟨s, x, x.length⟩ :: F) ∧ p'.room = p.room := by
  have h0 : ¬ (p.left = 0) := by rw [h.left]; decide
  have hg : fGet s p.l = some ⟨s, x, y⟩ := h.get (f := ⟨s, x, y⟩) (by simp)
  have hnd := h.nodup
  rw [List.map_cons, List.nodup_cons] at hnd
  have hp : pSync p s = (({ p with l := fPut ⟨s, x, x.length⟩ p.l } : Pd).done, 0) := by
    unfold pSync pFind
    rw [if_neg h0, hg]
  refine ⟨_, hp, ⟨?_, done_inf (p := { p with l := fPut ⟨s, x, x.length⟩ p.l }) h.left, ?_⟩, rfl⟩
  · show (fPut ⟨s, x, x.length⟩ p.l).Perm _
    unfold fPut
    refine (fIns_perm _ _).trans (List.Perm.cons _ ?_)
    refine (fDel_perm h.perm s).trans ?_
    rw [show s = (⟨s, x, y⟩ : Fi).n from rfl, fDel_cons hnd.1]
  · rw [List.map_cons, List.nodup_cons]
    exact hnd
theorem Has.store (h : Has p F) {s : ByteArray} {c : List Nat} (hs : nm s ∉ F.map Fi.n) (hn : okName (nm s) = true) (hr : (fSum F : Int) + (sealed c).length ≤ p.room) (hx : (sealed c).length ≤ 1048576) : ∃ p', pStore p s c = (p', 0, true) ∧ Has p' (⟨nm s, sealed c, (sealed c).length⟩ :: F) ∧ p'.room = p.room := by
  obtain ⟨p1, e1, h1, r1⟩ := h.write hs hn hr hx
  obtain ⟨p2, e2, h2, r2⟩ := h1.sync
  refine ⟨p2, ?_, h2, r2.trans r1⟩
  unfold pStore
  rw [e1]
  simp only [if_true, e2]
theorem Has.rename {s t : List UInt8} {x : List Nat} {y : Nat} (h : Has p (⟨s, x, y⟩ :: F)) (ht : t ∉ F.map Fi.n) (hn : okName t = true) : ∃ p', pRename p s t = (p', 0) ∧ Has p' (⟨t, x, y⟩ :: F) ∧ p'.room = p.room := by
  have h0 : ¬ (p.left = 0) := by rw [h.left]; decide
  have hg : fGet s p.l = some ⟨s, x, y⟩ := h.get (f := ⟨s, x, y⟩) (by simp)
  have hnd := h.nodup
  rw [List.map_cons, List.nodup_cons] at hnd
  have hd : (fDel s p.l).Perm F := by
    refine (fDel_perm h.perm s).trans ?_
    rw [show s = (⟨s, x, y⟩ : Fi).n from rfl, fDel_cons hnd.1]
  have ht2 : t ∉ (fDel s p.l).map Fi.n := fun hm => ht ((hd.map Fi.n).subset hm)
  have hp : pRename p s t = (({ p with l := fPut ⟨t, x, y⟩ (fDel s p.l) } : Pd).done, 0) := by
    unfold pRename pFind
    rw [if_neg h0, hg]
    simp [hn]
  refine ⟨_, hp, ⟨?_, done_inf (p := { p with l := fPut ⟨t, x, y⟩ (fDel s p.l) }) h.left, ?_⟩, rfl⟩
  · show (fPut ⟨t, x, y⟩ (fDel s p.l)).Perm _
    unfold fPut
    rw [fDel_out ht2]
    exact (fIns_perm _ _).trans (hd.cons _)
  · rw [List.map_cons, List.nodup_cons]
    exact ⟨ht, hnd.2⟩
theorem Has.delete {f : Fi} (h : Has p (f :: F)) : ∃ p', pDelete p f.n = (p', 0) ∧ Has p' F ∧ p'.room = p.room := by
  have h0 : ¬ (p.left = 0) := by rw [h.left]; decide
  have hg : fGet f.n p.l = some f := h.get (by simp)
  have hnd := h.nodup
  rw [List.map_cons, List.nodup_cons] at hnd
  have hp : pDelete p f.n = (({ p with l := fDel f.n p.l } : Pd).done, 0) := by
    unfold pDelete pFind
    rw [if_neg h0, hg]
  refine ⟨_, hp, ⟨?_, done_inf (p := { p with l := fDel f.n p.l }) h.left, hnd.2⟩, rfl⟩
  show (fDel f.n p.l).Perm F
  refine (fDel_perm h.perm f.n).trans ?_
  rw [fDel_cons hnd.1]
theorem Has.tidy (ws : List ByteArray) : ∀ {p : Pd} {D : List Fi}, Has p (D ++ F) → D.map Fi.n = ws.map nm → ∃ p', pTidy p ws = (p', []) ∧ Has p' F ∧ p'.room = p.room := by
  induction ws with
  | nil =>
    intro p D h e
    obtain rfl : D = [] := by simpa using e
    exact ⟨p, rfl, h, rfl⟩
  | cons s ws ih =>
    intro p D h e
    match D, e with
    | f :: D, e =>
      simp only [List.map_cons, List.cons.injEq] at e
      obtain ⟨p1, e1, h1, r1⟩ := Has.delete (F := D ++ F) h
      rw [e.1] at e1
      obtain ⟨p2, e2, h2, r2⟩ := ih h1 e.2
      refine ⟨p2, ?_, h2, r2.trans r1⟩
      rw [pTidy, e1]
      simp only [e2]
      rfl
end
end Go.Proofs.YtbfhcbihgleddaaGreatDoor
/-
  A vault of snapshots of one part: what Put makes of its disk.
-/
namespace Go.Proofs.YtbfhcbihgleddaaGreatDoor

def pt1 (c : List Nat) (n : Nat) : ByteArray := partN n 0 (crc c)
def XS (c : List Nat) (n : Nat) : Sp := ⟨n, 3, [pt1 c n], [c]⟩
def Wf (c : List Nat) (n : Nat) : Fi := ⟨nm (wholeN n), sealed (mOut n 3 [pt1 c n]), (sealed (mOut n 3 [pt1 c n])).length⟩
def Pf (c : List Nat) (n : Nat) : Fi := ⟨nm (pt1 c n), sealed c, (sealed c).length⟩
def FF (c : List Nat) (ns : List Nat) : List Fi := ns.flatMap fun n => [Wf c n, Pf c n]
theorem newS_XS (c : List Nat) (n : Nat) : newS n 3 [c] = XS c n := rfl
theorem FF_app (c : List Nat) (a b : List Nat) : FF c (a ++ b) = FF c a ++ FF c b := List.flatMap_append
theorem mem_FF {c : List Nat} {ns : List Nat} {s : List UInt8} : s ∈ (FF c ns).map Fi.n ↔ ∃ n ∈ ns, s = nm (wholeN n) ∨ s = nm (pt1 c n) := by
  unfold FF
  simp only [List.mem_map, List.mem_flatMap, List.mem_cons, List.not_mem_nil, or_false]
  constructor
  · rintro ⟨f, ⟨n, hn, rfl | rfl⟩, rfl⟩
    · exact ⟨n, hn, .inl rfl⟩
    · exact ⟨n, hn, .inr rfl⟩
  · rintro ⟨n, hn, rfl | rfl⟩
    · exact ⟨Wf c n, ⟨n, hn, .inl rfl⟩, rfl⟩
    · exact ⟨Pf c n, ⟨n, hn, .inr rfl⟩, rfl⟩
theorem head_w (n : Nat) : (nm (wholeN n)).head? = some 119 := by unfold wholeN; rw [nm_app]; rfl
theorem head_f (n : Nat) : (nm (freshN n)).head? = some 110 := by unfold freshN; rw [nm_app]; rfl
theorem head_p (n i c : Nat) : (nm (partN n i c)).head? = some 112 := by unfold partN; simp only [nm_app, List.append_assoc]; rfl
theorem w_ne_p {n m i c : Nat} : nm (wholeN n) ≠ nm (partN m i c) := fun e => by have := congrArg List.head? e; rw [head_w, head_p] at this; cases this
theorem f_ne_p {n m i c : Nat} : nm (freshN n) ≠ nm (partN m i c) := fun e => by have := congrArg List.head? e; rw [head_f, head_p] at this; cases this
theorem f_ne_w {n m : Nat} : nm (freshN n) ≠ nm (wholeN m) := fun e => by have := congrArg List.head? e; rw [head_f, head_w] at this; cases this
theorem n36_zero : (n36 0).size = 1 := by kernel_rfl
theorem n36_crc {c : List Nat} (hb : Byts c) : (n36 (crc c)).size ≤ 7 := by
  have := d36_len 6 (crc c) (Nat.lt_of_lt_of_le (crc_lt c hb) (by decide))
  show ((d36 (crc c)).map UInt8.ofNat).toArray.size ≤ 7
  simpa using this
theorem pt1_size {c : List Nat} (hb : Byts c) {n : Nat} (hn : n < 18446744073709551616) : (pt1 c n).size ≤ 28 ∧ 1 ≤ (pt1 c n).size := by
  have z1 := n36_size hn
  have z2 := n36_zero
  have z3 := n36_crc hb
  unfold pt1 partN
  simp only [size_append]
  show 5 + _ + 1 + _ + 1 + _ ≤ 28 ∧ 1 ≤ 5 + _ + 1 + _ + 1 + _
  omega
theorem ok_p {c : List Nat} (hb : Byts c) {n : Nat} (hn : n < 18446744073709551616) : okName (nm (pt1 c n)) = true := by
  obtain ⟨h1, h2⟩ := pt1_size hb hn
  unfold okName
  simp only [nm_length, decide_eq_true_eq]
  omega
theorem ok_w {n : Nat} (hn : n < 18446744073709551616) : okName (nm (wholeN n)) = true := by
  have z1 := n36_size hn
  have h1 : (wholeN n).size = 6 + (n36 n).size := by unfold wholeN; rw [size_append]; rfl
  unfold okName
  simp only [nm_length, decide_eq_true_eq, h1]
  omega
theorem ok_f {n : Nat} (hn : n < 18446744073709551616) : okName (nm (freshN n)) = true := by
  have z1 := n36_size hn
  have h1 : (freshN n).size = 4 + (n36 n).size := by unfold freshN; rw [size_append]; rfl
  unfold okName
  simp only [nm_length, decide_eq_true_eq, h1]
  omega
theorem mfits1 {c : List Nat} (hb : Byts c) {n : Nat} (hn : n < 18446744073709551616) : mfits [pt1 c n] = true := by
  have := (pt1_size hb hn).1
  unfold mfits fitsN
  simp
  omega
theorem man_len {c : List Nat} (hb : Byts c) {n : Nat} (hn : n < 18446744073709551616) : (sealed (mOut n 3 [pt1 c n])).length ≤ 100 := by
  have := (pt1_size hb hn).1
  rw [sealed_len, mOut, if_pos (mfits1 hb hn)]
  unfold manb
  have hsb : (sb (pt1 c n)).length = (pt1 c n).size := by simp [sb]
  simp [be_length, namesb, nameb, hsb]
  omega
theorem FF_nodup {c : List Nat} {ns : List Nat} (h : ns.Nodup) : ((FF c ns).map Fi.n).Nodup := by
  induction ns with
  | nil => exact List.nodup_nil
  | cons n ns ih =>
    rw [List.nodup_cons] at h
    show (nm (wholeN n) :: nm (pt1 c n) :: (FF c ns).map Fi.n).Nodup
    rw [List.nodup_cons, List.nodup_cons]
    refine ⟨fun hm => ?_, fun hm => ?_, ih h.2⟩
    · rcases List.mem_cons.1 hm with e | hm
      · exact w_ne_p e
      · obtain ⟨m, hm, e | e⟩ := mem_FF.1 hm
        · exact h.1 (by rw [wholeN_inj e]; exact hm)
        · exact w_ne_p e
    · obtain ⟨m, hm, e | e⟩ := mem_FF.1 hm
      · exact w_ne_p e.symm
      · exact h.1 (by rw [(partN_inj e).1]; exact hm)
theorem FF_sum {c : List Nat} (hb : Byts c) {ns : List Nat} (hn : ∀ n ∈ ns, n < 18446744073709551616) : ns.length * (sealed c).length ≤ fSum (FF c ns) ∧ fSum (FF c ns) ≤ ns.length * ((sealed c).length + 100) := by
  induction ns with
  | nil => simp [FF, fSum]
  | cons n ns ih =>
    obtain ⟨h1, h2⟩ := ih (fun m hm => hn m (by simp [hm]))
    have h3 := man_len hb (hn n (by simp))
    have h4 : fSum (FF c (n :: ns)) = (sealed (mOut n 3 [pt1 c n])).length + ((sealed c).length + fSum (FF c ns)) := by
      show fSum (Wf c n :: Pf c n :: FF c ns) = _
      simp [fSum, Wf, Pf]
    rw [h4, List.length_cons, Nat.succ_mul, Nat.succ_mul]
    omega
theorem fls_FF (c : List Nat) (ns : List Nat) : (FF c ns).map Fi.n = (flsS (ns.map (XS c))).map nm := by
  induction ns with
  | nil => rfl
  | cons n ns ih =>
    show nm (wholeN n) :: nm (pt1 c n) :: (FF c ns).map Fi.n = nm (wholeN n) :: nm (pt1 c n) :: (flsS (ns.map (XS c))).map nm
    rw [ih]
theorem newest_lt {c : List Nat} {ns : List Nat} {n : Nat} (h0 : 0 < n) (h : ∀ m ∈ ns, m < n) : ¬ (n ≤ newestS (ns.map (XS c))) := by
  unfold newestS
  rw [List.getLast?_map]
  cases hl : ns.getLast? with
  | none => simp; omega
  | some m =>
    have := h m (List.mem_of_getLast? hl)
    simp [XS]; omega
set_option maxHeartbeats 1000000 in
/-- What Put does. -/
theorem put_clean {c : List Nat} (hb : Byts c) {p : Pd} {ns : List Nat} {n kp : Nat} (h : Has p (FF c ns)) (hn : n < 18446744073709551616) (h0 : 0 < n) (hlt : ∀ m ∈ ns, m < n) (hr : p.room = 1048576) (hs : (ns.length + 1) * ((sealed c).length + 100) ≤ 1048576) :
    ∃ p', pPut kp p (ns.map (XS c)) [] n 3 ([c], 0) = (p', 0, ((ns ++ [n]).drop (ns.length + 1 - kp)).map (XS c), []) ∧ Has p' (FF c ((ns ++ [n]).drop (ns.length + 1 - kp))) ∧ p'.room = 1048576 := by
  have hns : ∀ m ∈ ns, m < 18446744073709551616 := fun m hm => Nat.lt_trans (hlt m hm) hn
  have hsum := (FF_sum hb hns).2
  have hml := man_len hb hn
  rw [Nat.succ_mul] at hs
  have hp1 : nm (pt1 c n) ∉ (FF c ns).map Fi.n := fun hm => by
    obtain ⟨m, hm, e | e⟩ := mem_FF.1 hm
    · exact w_ne_p e.symm
    · have := hlt m hm
      rw [(partN_inj e).1] at this
      omega
  obtain ⟨p1, e1, h1, r1⟩ := h.store (s := pt1 c n) (c := c) hp1 (ok_p hb hn) (by rw [hr]; omega) (by omega)
  have hf1 : nm (freshN n) ∉ (Pf c n :: FF c ns).map Fi.n := fun hm => by
    rcases List.mem_cons.1 hm with e | hm
    · exact f_ne_p e
    · obtain ⟨m, hm, e | e⟩ := mem_FF.1 hm
      · exact f_ne_w e
      · exact f_ne_p e
  have hs1 : fSum (Pf c n :: FF c ns) = (sealed c).length + fSum (FF c ns) := by simp [fSum, Pf]
  obtain ⟨p2, e2, h2, r2⟩ := Has.store (F := Pf c n :: FF c ns) h1 (s := freshN n) (c := mOut n 3 [pt1 c n]) hf1 (ok_f hn) (by rw [r1, hr, hs1]; omega) (by omega)
  have hw1 : nm (wholeN n) ∉ (Pf c n :: FF c ns).map Fi.n := fun hm => by
    rcases List.mem_cons.1 hm with e | hm
    · exact w_ne_p e
    · obtain ⟨m, hm, e | e⟩ := mem_FF.1 hm
      · have := hlt m hm
        rw [wholeN_inj e] at this
        omega
      · exact w_ne_p e
  obtain ⟨p3, e3, h3, r3⟩ := h2.rename hw1 (ok_w hn)
  have hlay : pLay (XS c n) p [] = (p3, 0, [pt1 c n, freshN n]) := by
    unfold pLay
    have hm : mEr (XS c n).parts = 0 := by unfold mEr; rw [show (XS c n).parts = [pt1 c n] from rfl, mfits1 hb hn]; rfl
    rw [if_pos hm]
    have hst : pStores p [] (XS c n).parts (XS c n).chunks = (p1, 0, [pt1 c n]) := by
      show pStores p [] [pt1 c n] [c] = _
      simp only [pStores, e1]
      simp
    rw [hst]
    simp only [if_true]
    unfold pLay2
    rw [show (XS c n).n = n from rfl, show (XS c n).ep = 3 from rfl, show (XS c n).parts = [pt1 c n] from rfl]
    rw [show pStore p1 (freshN n) (mOut (n : Nat) (3 : Nat) [pt1 c n]) = (p2, 0, true) from e2]
    simp only [if_true, e3]
    rfl
  have hperm : (Wf c n :: Pf c n :: FF c ns).Perm (FF c ((ns ++ [n]).take (ns.length + 1 - kp)) ++ FF c ((ns ++ [n]).drop (ns.length + 1 - kp))) := by
    rw [← FF_app, List.take_append_drop, FF_app]
    exact List.perm_append_comm (l₁ := [Wf c n, Pf c n])
  obtain ⟨p4, e4, h4, r4⟩ := Has.tidy (flsS (((ns ++ [n]).take (ns.length + 1 - kp)).map (XS c))) (Has.re h3 hperm) (fls_FF c _)
  refine ⟨p4, ?_, h4, by rw [r4, r3, r2, r1, hr]⟩
  have hadd : ns.map (XS c) ++ [XS c n] = (ns ++ [n]).map (XS c) := by simp
  unfold pPut
  rw [if_pos rfl, if_neg (newest_lt h0 hlt), newS_XS]
  show pEnd kp (ns.map (XS c)) (XS c n) (pLay (XS c n) p []) = _
  rw [hlay]
  unfold pEnd
  rw [if_pos rfl, hadd, List.length_map, ← List.map_take, ← List.map_drop, e4]
theorem pk_one {s : Sn} (h : sEr s = 0) : pk [] [] [s] = ([sealed (sOut s)], 0) := by
  have h1 := sOut_len s
  have h2 := sealed_len (sOut s)
  rw [pk, if_pos h, if_neg (by simp only [List.length_nil]; omega), List.nil_append, pk, if_neg (by intro e; rw [e] at h2; simp at h2), List.nil_append]
theorem pk_bad {s : Sn} (h : sEr s ≠ 0) : pk [] [] [s] = ([], sEr s) := by rw [pk, if_neg h]
theorem sEr_three (s : Sn) : sEr s = 0 ∨ sEr s = 10 ∨ sEr s = 12 := by
  unfold sEr
  split
  · exact .inr (.inr rfl)
  · split
    · exact .inl rfl
    · exact .inr (.inl rfl)
theorem snb_len2 {s : Sn} (hl : 10 + s.marks.length + 4 * s.panes.length + 4 * s.outs.length ≤ 20000) : (sealed (sealed (sOut s))).length ≤ 160000 ∧ Byts (sealed (sOut s)) := by
  refine ⟨?_, sealed_byts' _ (sOut_byts s)⟩
  rw [sealed_len, sealed_len]
  have h1 := flat_len sbe 8 (fun n => Nat.le_of_eq (sbe_len n)) s.marks
  have h2 := flat_len pnb 32 (fun n => Nat.le_of_eq (pnb_len n)) s.panes
  have h3 := flat_len otb 27 otb_len s.outs
  have h4 : (sOut s).length ≤ (snb s).length := by
    unfold sOut
    split
    · simp
    · split
      · exact Nat.le_refl _
      · simp
  have h5 : (snb s).length ≤ 18 + s.marks.length * 8 + s.panes.length * 32 + s.outs.length * 27 := by
    unfold snb
    simp only [List.length_append, be_length, sbe_len]
    omega
  omega
theorem drop_step (al : List Nat) (n kp : Nat) : (al.drop (al.length - kp) ++ [n]).drop ((al.drop (al.length - kp)).length + 1 - kp) = (al ++ [n]).drop ((al ++ [n]).length - kp) := by
  have h1 : al.drop (al.length - kp) ++ [n] = (al ++ [n]).drop (al.length - kp) := by rw [List.drop_append_of_le_length (by omega)]
  rw [h1, List.drop_drop, List.length_drop, List.length_append, List.length_singleton]
  congr 1
  omega
end Go.Proofs.YtbfhcbihgleddaaGreatDoor

/-
  Texts of the vault, in build order: VTn3, VCutX, VLawE.
-/
import Derived.Test.YtbfhcbihgleddaaGreatDoorM40
import Derived.Test.YtbfhcbihgleddaaGreatDoorM38
import Derived.Test.YtbfhcbihgleddaaGreatDoorM42
import Derived.Test.YtbfhcbihgleddaaGreatDoorM43
import Derived.Deep.CutBlock
import Derived.Deep.CutRange
import Derived.Test.YtbfhcbihgleddaaGreatDoorM30
import Derived.Deep.RegionHeld3
/-
  Helps of the law VaultTorn's walk.
-/
namespace Go.Proofs.YtbfhcbihgleddaaGreatDoor
open Go.RowKit

theorem TV.app {w0 w w1 w' : World} {k V b nf : Nat} {ls : List TnV} {va va' : Value} {t : TnV} (hv : TVv w0 w k V b nf (ls ++ [t])) (hok : ∀ u ∈ ls, TnOk w0.heap.size w0 u) (ht : TnOk w0.heap.size w0 t) (hb : Below w.heap.size w w1) (hrow : Row 30 1 TnV.cs w0.heap.size w1 va ls) (hr : Row 30 1 TnV.cs w0.heap.size w' va' (ls ++ [t])) (hg : w1.grownBy w' va.ownBlock) : TV w0 w' k V b nf (ls ++ [t]) va' := by
  obtain ⟨vt, vw, th, p, h1, h2, h3⟩ := hv.below hb
  refine ⟨⟨vt, vw, th, p, h1, ?_, h3⟩, hr, fun u hu => ?_⟩
  · cases ho : va.ownBlock with
    | none =>
      rw [ho] at hg
      exact h2.below ⟨hg.os, hg.tape, hg.output, hg.size, fun i hi => hg.block i hi (by simp)⟩
    | some g =>
      rw [ho] at hg
      obtain ⟨cur, hc⟩ := hrow.has g ho
      exact h2.law hc (hrow.at g ho) ⟨hg.os, hg.tape, hg.output, hg.size, fun i hi h1 _ => hg.block i hi (by simpa using h1)⟩ (by decide) (by decide) (by decide) (by decide) (by decide) (by decide)
  · rcases List.mem_append.1 hu with h | h
    · exact hok u h
    · rcases List.mem_singleton.1 h with rfl; exact ht
theorem SegB.nil0 (B : Nat) (w : World) : SegB B w (.slice none 0 0) [] := by
  exact ⟨none, 0, rfl, by simp, by simp, by simp, .inl rfl⟩
theorem Tryz.info30' : (Tryz.prog.info? 30).map (fun i => (i.zero, i.size, i.bytes)) = some (some (.slice none 0 0), 1, 24) := by kernel_rfl
theorem bits_xor8 {x y : Nat} (hx : x < 256) (hy : y < 256) : bits BinOp.xor IntKind.u8 (x : Int) (y : Int) = ((x ^^^ y : Nat) : Int) := by
  have h : x ^^^ y < 256 := Nat.xor_lt_two_pow (n := 8) hx hy
  show IntKind.u8.wrap (((BitVec.ofInt 8 (x : Int)) ^^^ (BitVec.ofInt 8 (y : Int))).toNat : Int) = _
  have e1 : (BitVec.ofInt 8 (x : Int)).toNat = x := by simp [BitVec.toNat_ofNat]; omega
  have e2 : (BitVec.ofInt 8 (y : Int)).toNat = y := by simp [BitVec.toNat_ofNat]; omega
  rw [BitVec.toNat_xor, e1, e2]
  unfold IntKind.wrap
  simp [IntKind.bits, IntKind.signed]
  omega
theorem OwnL.lsegG {α : Type} {t sz : Nat} {cs : α → List Value} {base : Nat} {w : World} {v : Value} {xs : List α} (h : OwnL t sz cs base w v xs) (hcs : ∀ x, (cs x).length = sz) (hl : xs.length ≤ 140737488355328) : LSeg sz cs w.heap.size w v xs := by
  rcases Row.of_own h with ⟨rfl, rfl⟩ | ⟨g, off, cap, cur, rfl, h2, h3, h4, h5, h6, h7⟩
  · exact ⟨none, 0, rfl, by simp, .inl rfl⟩
  · refine ⟨_, cap, rfl, hl, .inr ⟨g, off, rfl, h3.lt, fun i x hx j u hu => ?_⟩⟩
    rw [h3.cellAt, Nat.add_assoc]
    exact h7 _ u (flat_get hcs xs i j x u hx hu)
theorem OwnSn.segG {base : Nat} {w : World} {vm vp vc : Value} {s : Sn} (h : OwnSn base w vm vp vc s) (hl : s.marks.length ≤ 140737488355328 ∧ s.panes.length ≤ 140737488355328 ∧ s.outs.length ≤ 140737488355328) : SnSeg w.heap.size w vm vp vc s := ⟨h.m.lsegG (fun _ => rfl) hl.1, h.p.lsegG (fun _ => rfl) hl.2.1, h.c.lsegG (fun _ => rfl) hl.2.2⟩
theorem FX_zero {xs : List Sp} (h : FX xs = []) : xs = [] := by
  cases xs with
  | nil => rfl
  | cons x xs => simp [FX] at h
theorem len_w (l : List SnV) : l.length * 10 ≤ (l.map wSn).sum := by
  induction l with
  | nil => simp
  | cons x l ih => simp only [List.length_cons, List.map_cons, List.sum_cons, wSn]; omega
def stOf (t : TnV) : StV := ⟨0, 0, t.a, t.c, t.l, none, 0, [], none, 0, []⟩
/-- One step with just these parts, as light gets it. -/
theorem sts_one {w : World} {g : Nat} {t : TnV} (h : BoxT 33 w g #[.int .i64 0, .int .i64 0, .slice t.a t.l.length t.c, .slice none 0 0, .slice none 0 0]) (hs : SnsIn w.heap.size w (.slice t.a t.l.length t.c) t.l) : StsIn w.heap.size w (.slice (some ⟨g, 0, none⟩) [stOf t].length 1) [stOf t] := by
  refine ⟨⟨_, 1, rfl, by simp, .inr ⟨g, 0, rfl, h.lt, fun i z hz j u hu => ?_⟩⟩, fun z hz => ?_⟩
  · have hi : i = 0 := by have := (List.getElem?_eq_some_iff.1 hz).1; simp at this; omega
    subst hi
    simp at hz
    subst hz
    rw [h.cellAt, Nat.zero_mul, Nat.add_zero, Nat.zero_add]
    match j, hu with
    | 0, hu | 1, hu | 2, hu | 3, hu | 4, hu => simpa [StV.cs, stOf] using hu
  · rcases List.mem_singleton.1 hz with rfl
    exact ⟨hs, ⟨none, 0, rfl, by simp [stOf], .inl rfl⟩, SegB.nil0 _ _, fun i x hx => by simp [stOf] at hx, rfl⟩
end Go.Proofs.YtbfhcbihgleddaaGreatDoor
/-
  Put on a disk whose power may go, and Open behind the crash: the calls.
-/
namespace Go.Proofs.YtbfhcbihgleddaaGreatDoor
open Go.RowKit

theorem FX_two (x y : Sp) : FX [x, y] = FX [x] ++ (fW y :: fP y) := by
  rw [show [x, y] = [x] ++ [y] from rfl, FX_app]
  congr 1
  show fW y :: fP y ++ [] = _
  rw [List.append_nil]
/-- A Put beside one snapshot, where two may stay: all of it, or the power went. -/
theorem pEnd_cut {p : Pd} {x1 x2 : Sp} (h : Hz p (FX [x1])) (o1 : One x1) (o2 : One x2) (hlt : x1.n < x2.n) (hr : (fSum (FX [x1]) : Int) + fSum (FX [x2]) ≤ p.room) :
    (∃ q, pEnd 2 [x1] x2 (pLay x2 p []) = (q, 0, [x1, x2], []) ∧ Hz q (FX [x1, x2])) ∨ ∃ q ws E, pEnd 2 [x1] x2 (pLay x2 p []) = (q, 23, [x1], ws) ∧ Hz q (E ++ FX [x1]) ∧ Half x2 E := by
  have hp1 : ∀ c ∈ x2.chunks, nm (pt1 c x2.n) ∉ (FX [x1]).map Fi.n := fun c hc hm => by
    obtain ⟨y, hy, e | ⟨d, hd, e⟩⟩ := mem_FX.1 hm
    · exact w_ne_p e.symm
    · rcases List.mem_singleton.1 hy with rfl
      have := (partN_inj e).1
      omega
  have hf1 : nm (freshN x2.n) ∉ (FX [x1]).map Fi.n := fun hm => by
    obtain ⟨y, hy, e | ⟨d, hd, e⟩⟩ := mem_FX.1 hm
    · exact f_ne_w e
    · exact f_ne_p e
  have hw1 : nm (wholeN x2.n) ∉ (FX [x1]).map Fi.n := fun hm => by
    obtain ⟨y, hy, e | ⟨d, hd, e⟩⟩ := mem_FX.1 hm
    · rcases List.mem_singleton.1 hy with rfl
      have := wholeN_inj e
      omega
    · exact w_ne_p e
  rcases lay_cut o2 h hp1 hf1 hw1 hr with ⟨q, e, hq, _⟩ | ⟨q, ws, E, e, h0, hq, _, hE⟩
  · refine .inl ⟨q, ?_, hq.re ?_⟩
    · rw [e]
      unfold pEnd
      rw [if_pos rfl]
      simp [flsS, pTidy]
    · rw [FX_two]
      exact List.perm_append_comm (l₁ := fW x2 :: fP x2)
  · refine .inr ⟨q, ws, E, ?_, hq, hE⟩
    rw [e]
    unfold pEnd
    rw [if_neg (show ¬ ((23 : Int) = 0) by decide), tidy_dead h0]
theorem kCut {w0 w : World} {k b n : Nat} {p : Pd} (h : St w0 w k b n p) (x : Int) (hx : (Lit.int .i64 x).wf = true) :
    Calls Tryz.prog 21 #[.pointer (some ⟨k, 0, none⟩), .int .i64 x] w fun e w' => e = .returned (.tuple #[]) ∧ St w0 w' k b n { p with left := if p.left = 0 then 0 else max x (-1) } ∧ Turned k b w w' :=
  (Cut_p h.d x hx).mono fun _ _ ⟨h1, h2, h3⟩ => ⟨h1, ⟨h2, h.s.step h3⟩, h3⟩
theorem put_cut {w0 w : World} {V k b nf : Nat} {p : Pd} {vt vw vs : Value} {th : List SpV} {x1 : Sp} {l : List SnV} (hv : VAt w0 w V k b nf p ((2 : Nat) : Int) vt vw th []) (hg : Glob w0) (hth : th.map SpV.s = [x1]) (h : Hz p (FX [x1])) (o1 : One x1) (hin : SnsIn w.heap.size w vs l) (hl : ∀ x ∈ l, sEr x.s = 0 ∧ x.s.ok) (hw : (l.map wSn).sum ≤ 20000) (hlt : x1.n < 2) (hr : (fSum (FX [x1]) : Int) + 160200 ≤ p.room) (hnf : nf + 3000 ≤ 1000000) :
    Calls Tryz.prog 13 #[.pointer (some ⟨V, 0, none⟩), .int .u64 (2 : Nat), .int .u64 (1 : Nat), vs] w fun e w' => ∃ er q, e = .returned (.int .i64 er) ∧ St w0 w' k b (nf + 3000) q ∧ ((er = 0 ∧ Hz q (FX [x1, newS 2 1 (chunksOf (l.map SnV.s))])) ∨ (er = 23 ∧ ∃ E, Hz q (E ++ FX [x1]) ∧ Half (newS 2 1 (chunksOf (l.map SnV.s))) E)) := by
  obtain ⟨h1, h2, _, _, h5⟩ := One.light hl hw (n := 2) (ep := 1) (by decide) (by decide) (by decide)
  have hlen : th.length = 1 := by have := congrArg List.length hth; rwa [List.length_map] at this
  have hl2 : l.length ≤ 2000 := by have := len_w l; omega
  have hck : (pk [] [] (l.map SnV.s)).1.length ≤ 900 := by
    rw [h1]
    have h3 : (chunksOf (l.map SnV.s)).length ≤ 1 := h2.len
    show (chunksOf _).length ≤ 900
    omega
  have o1' : ∀ y ∈ [x1], One y := fun y hy => by rcases List.mem_singleton.1 hy with rfl; exact o1
  have hnl : ¬ 2 ≤ newestS [x1] := newest_ltS (by decide) (fun y hy => by rcases List.mem_singleton.1 hy with rfl; exact hlt)
  have hpp : pPut 2 p [x1] [] 2 1 (pk [] [] (l.map SnV.s)) = pEnd 2 [x1] (newS 2 1 (chunksOf (l.map SnV.s))) (pLay (newS 2 1 (chunksOf (l.map SnV.s))) p []) := by
    rw [h1, pPut, if_pos rfl, if_neg hnl]
    rfl
  rcases pEnd_cut h o1 h2 hlt (by omega) with ⟨q, e, hq⟩ | ⟨q, ws, E, e, hq, hE⟩
  · refine (Put_any hv hg 2 1 (by decide) (by decide) vs l hin (by omega) hck (by decide) (by omega) (hx_of hth (One.found o1')) (by simp) (fun s hs => by cases hs) hnf q 0 _ [] (by rw [hth, hpp, e])).mono ?_
    rintro e2 w' ⟨rfl, vt', vw', th', q1, q2, q3⟩
    exact ⟨0, q, rfl, q2.st, .inl ⟨rfl, hq⟩⟩
  · refine (Put_any hv hg 2 1 (by decide) (by decide) vs l hin (by omega) hck (by decide) (by omega) (hx_of hth (One.found o1')) (by simp) (fun s hs => by cases hs) hnf q 23 _ ws (by rw [hth, hpp, e])).mono ?_
    rintro e2 w' ⟨rfl, vt', vw', th', q1, q2, q3⟩
    exact ⟨23, q, rfl, q2.st, .inr ⟨rfl, E, hq, hE⟩⟩
/-- Open behind a crash. -/
theorem open_cut {w0 w : World} {k b n : Nat} {p : Pd} {xs : List Sp} {E : List Fi} {x2 : Sp} (keep : List Int) (hz : Hz p (E ++ FX xs)) (hE : Half x2 E) (ho2 : One x2) (ho : ∀ x ∈ xs, One x) (hu : ∀ x ∈ xs, ∀ c ∈ x.chunks, upOk c = true) (hx : xs.Pairwise fun a b => a.n < b.n) (hlx : xs.length ≤ 100) (h : St w0 w k b n (pCrash p keep)) (hg : Glob w0) (kp : Int) :
    Calls Tryz.prog 12 #[.pointer (some ⟨k, 0, none⟩), .int .i64 kp] w fun e w' => ∃ V vt vw th ws, e = .returned (.tuple #[.pointer (some ⟨V, 0, none⟩), .int .i64 0]) ∧ VAt w0 w' V k b n (pCrash p keep) (max kp 1) vt vw th ws ∧ th.map SpV.s = xs ∧ Srt th ∧ Below w.heap.size w w' := by
  have hf := found_cut hz ho hu (fun q f hf => half_none hE q hf) keep
  have hnm : ∀ s ∈ (pCrash p keep).l.map Fi.n, s.length ≤ 100 := fun s hs => by
    have hs2 : s ∈ (E ++ FX xs).map Fi.n := by
      have e : (pCrash p keep).l.map Fi.n = p.l.map Fi.n := crash_names keep p.l
      rw [e] at hs
      exact hz.names.subset hs
    rw [List.map_append] at hs2
    rcases List.mem_append.1 hs2 with hs2 | hs2
    · obtain ⟨f, hf, rfl⟩ := List.mem_map.1 hs2
      rcases hE.2 f hf with e | ⟨c, hc, e⟩
      · rw [e, nm_length]
        have := freshN_size ho2.lt
        omega
      · rw [e, nm_length]
        have := (pt1_size (ho2.ck c hc).1 ho2.lt).1
        omega
    · exact (FX_name ho s hs2).1
  have hlen : (pCrash p keep).l.length ≤ 1000 := by
    show (crashL keep p.l).length ≤ 1000
    rw [crashL_length, hz.perm.length_eq, List.length_append]
    have h1 := FX_len ho
    have h2 := hE.1
    omega
  refine (VOpen_any h hg kp (by show (-1 : Int) ≠ 0; decide) hnm hlen (fun x hx' => ?_)).mono ?_
  · obtain ⟨h1, h2, h3⟩ := One.found ho x (hf.subset hx')
    exact ⟨h1, h2, fun s hs => by have := h3 s hs; unfold maxLen; omega⟩
  · rintro e w' ⟨V, vt, vw, th, rfl, hv, hp, hr, hb⟩
    obtain ⟨h1, h2⟩ := risen (hp.trans hf) hr hx
    exact ⟨V, vt, vw, th, _, rfl, hv, h1, h2, hb⟩
/-- Two steps with just these parts, as light gets them. -/
theorem sts_two {w : World} {g : Nat} {t u : TnV} (h : BoxT 33 w g #[.int .i64 0, .int .i64 0, .slice t.a t.l.length t.c, .slice none 0 0, .slice none 0 0, .int .i64 0, .int .i64 0, .slice u.a u.l.length u.c, .slice none 0 0, .slice none 0 0]) (hs : SnsIn w.heap.size w (.slice t.a t.l.length t.c) t.l) (hs2 : SnsIn w.heap.size w (.slice u.a u.l.length u.c) u.l) : StsIn w.heap.size w (.slice (some ⟨g, 0, none⟩) [stOf t, stOf u].length 2) [stOf t, stOf u] := by
  refine ⟨⟨_, 2, rfl, by simp, .inr ⟨g, 0, rfl, h.lt, fun i z hz j u hu => ?_⟩⟩, fun z hz => ?_⟩
  · rw [h.cellAt, Nat.zero_add]
    match i, hz with
    | 0, hz =>
      simp at hz
      subst hz
      match j, hu with
      | 0, hu | 1, hu | 2, hu | 3, hu | 4, hu => simpa [StV.cs, stOf] using hu
    | 1, hz =>
      simp at hz
      subst hz
      match j, hu with
      | 0, hu | 1, hu | 2, hu | 3, hu | 4, hu => simpa [StV.cs, stOf] using hu
  · simp only [List.mem_cons, List.not_mem_nil, or_false] at hz
    rcases hz with rfl | rfl
    · exact ⟨hs, ⟨none, 0, rfl, by simp [stOf], .inl rfl⟩, SegB.nil0 _ _, fun i x hx => by simp [stOf] at hx, rfl⟩
    · exact ⟨hs2, ⟨none, 0, rfl, by simp [stOf], .inl rfl⟩, SegB.nil0 _ _, fun i x hx => by simp [stOf] at hx, rfl⟩
end Go.Proofs.YtbfhcbihgleddaaGreatDoor
/-
  The law VaultEvery, walked.
-/
namespace Go.Proofs.YtbfhcbihgleddaaGreatDoor
open Go.RowKit

theorem SnsIn.far {w w' : World} {v : Value} {xs : List SnV} (h : SnsIn w.heap.size w v xs) (hb : Below w.heap.size w w') : SnsIn w'.heap.size w' v xs := by
  have := h.below hb
  exact ⟨this.row.mono hb.size, fun x hx => (this.each x hx).mono hb.size, this.pos⟩
/-- Get of a snapshot that is there. -/
theorem get_newS {w0 w : World} {V k b n : Nat} {p : Pd} {keep : Int} {vt vw : Value} {th : List SpV} {ws : List ByteArray} (h : VAt w0 w V k b n p keep vt vw th ws) (hg : Glob w0) (hs : Srt th) (hll : th.length ≤ 100) {m : Nat} {l : List SnV} (hm : newS m 1 (chunksOf (l.map SnV.s)) ∈ th.map SpV.s) (hl : ∀ x ∈ l, sEr x.s = 0 ∧ x.s.ok) (hw : (l.map wSn).sum ≤ 20000) (h0 : 0 < m) (hmlt : m < 18446744073709551616) {vn : Int} (hvn : vn = (m : Int)) :
    Calls Tryz.prog 25 #[.pointer (some ⟨V, 0, none⟩), .int .u64 vn] w fun e w' => ∃ a9 c9 xs9, e = .returned (.tuple #[.slice a9 l.length c9, .int .u64 1, .int .i64 0]) ∧ OwnL 27 6 SnV.cs w.heap.size w' (.slice a9 l.length c9) xs9 ∧ (∀ x ∈ xs9, x.ok w.heap.size w') ∧ Below w.heap.size w w' ∧ xs9.map SnV.s = l.map SnV.s := by
  obtain ⟨x, hx, hxs⟩ := List.mem_map.1 hm
  have hxn : x.n = m := congrArg Sp.n hxs
  have hxe : x.ep = 1 := congrArg Sp.ep hxs
  have hxc : x.ck.map Ck.l = chunksOf (l.map SnV.s) := congrArg Sp.chunks hxs
  obtain ⟨_, hone, _, hgot, _⟩ := One.light hl hw (n := m) (ep := 1) h0 hmlt (by decide)
  have hck : ∀ c ∈ x.ck, c.l.length ≤ 2000000 ∧ Byts c.l := fun c hc => by
    have hcm : c.l ∈ chunksOf (l.map SnV.s) := by rw [← hxc]; exact List.mem_map.2 ⟨c, hc, rfl⟩
    obtain ⟨q1, q2⟩ := hone.ck c.l hcm
    refine ⟨?_, q1⟩
    rw [sealed_len] at q2
    omega
  have hkl : x.ck.length ≤ 1000000 := by
    have h1 := congrArg List.length hxc
    have h2 : (chunksOf (l.map SnV.s)).length ≤ 1 := hone.len
    rw [List.length_map] at h1
    omega
  have htl : l.length * 10 ≤ 20000 := Nat.le_trans (len_w l) hw
  have hget := get_any h hg (by omega) hs x hx hck hkl (by rw [hxc, hgot, List.length_map]; omega)
  rw [hxc, hxe, hxn, ← hvn] at hget
  refine hget.mono ?_
  rintro e w' ⟨v9, xs9, rfl, gi⟩
  have his := gi.is
  rw [hgot] at his
  have hxl : xs9.length = l.length := by
    have h1 := congrArg List.length his
    rwa [List.length_map, List.length_map] at h1
  obtain ⟨a9, c9, hv9⟩ := gi.own.shape
  rw [hxl] at hv9
  subst hv9
  exact ⟨a9, c9, xs9, rfl, gi.own, gi.oks, gi.bel, his⟩
set_option maxHeartbeats 16000000 in
set_option maxRecDepth 100000 in
theorem VaultEvery_walk (w : World) (hg : Glob w) (aa ba ka : Option Addr) (ac bc kc : Nat) (al bl : List SnV) (kl : List Int) (hA : SnsIn w.heap.size w (.slice aa al.length ac) al) (hAo : ∀ x ∈ al, x.s.ok) (hB : SnsIn w.heap.size w (.slice ba bl.length bc) bl) (hBo : ∀ x ∈ bl, x.s.ok) (hk : LSeg 1 (fun x : Int => [Value.int .i64 x]) w.heap.size w (.slice ka kl.length kc) kl) :
    Calls Tryz.prog 7 #[.slice aa al.length ac, .slice ba bl.length bc, .slice ka kl.length kc] w fun e w' => e = .returned (.bool true) ∧ Below w.heap.size w w' := by
  have hkn := hide (known_any w hg)
  have HA := hide hA
  have HB := hide hB
  have HAO := hide hAo
  have HBO := hide hBo
  have HK := hide hk
  have hla := hA.row.len
  have hlb := hB.row.len
  have hlk := hk.len
  clear hA hB hAo hBo hk
  go_enter Tryz.func7, Tryz.ntmps7
  go_wp2_with fail
  go_at_call 9
  refine hkn.out.mono ?_
  rintro e w2 ⟨rfl, b2⟩
  have ba2 : Below w2.heap.size w2 (w2.alloc (.cells #[.int .i64 0, .int .i64 0, .slice aa al.length ac, .slice none 0 0, .slice none 0 0, .int .i64 0, .int .i64 0, .slice ba bl.length bc, .slice none 0 0, .slice none 0 0] 33)) := (Below.refl _ _).alloc (Nat.le_refl _) _
  have hbb := b2.trans (ba2.mono b2.size)
  have hlg : Hid (Calls Tryz.prog 10 #[.slice (some ⟨w2.heap.size, 0, none⟩) 2 2] (w2.alloc (.cells #[.int .i64 0, .int .i64 0, .slice aa al.length ac, .slice none 0 0, .slice none 0 0, .int .i64 0, .int .i64 0, .slice ba bl.length bc, .slice none 0 0, .slice none 0 0] 33)) fun e w' => LtPost [stOf ⟨aa, ac, al⟩, stOf ⟨ba, bc, bl⟩] e ∧ Below (w2.alloc (.cells #[.int .i64 0, .int .i64 0, .slice aa al.length ac, .slice none 0 0, .slice none 0 0, .int .i64 0, .int .i64 0, .slice ba bl.length bc, .slice none 0 0, .slice none 0 0] 33)).heap.size (w2.alloc (.cells #[.int .i64 0, .int .i64 0, .slice aa al.length ac, .slice none 0 0, .slice none 0 0, .int .i64 0, .int .i64 0, .slice ba bl.length bc, .slice none 0 0, .slice none 0 0] 33)) w') := light_any (sts_two (t := ⟨aa, ac, al⟩) (u := ⟨ba, bc, bl⟩) (BoxT.new _ _ _) (HA.out.far hbb) (HB.out.far hbb))
  have BB := hide hbb
  clear hkn b2 ba2 hbb
  go_wp2_with fail
  go_at_call 10
  refine hlg.out.mono ?_
  rintro e w3 ⟨⟨blt, rfl, hbl⟩, b3⟩
  have B3 := hide (BB.out.trans (b3.mono BB.out.size))
  clear b3 BB hlg
  cases blt
  · clear hbl
    go_wp2
    go_ret
    exact ⟨rfl, B3.out⟩
  have hws : (al.map wSn).sum ≤ 20000 ∧ (bl.map wSn).sum ≤ 20000 := by
    have := (hbl rfl).2
    simp [wSt, stOf] at this
    omega
  obtain ⟨hwa, hwb⟩ := hws
  have hla2 : al.length ≤ 2000 := by have := len_w al; omega
  have hlb2 : bl.length ≤ 2000 := by have := len_w bl; omega
  have HWA := hide hwa
  have HWB := hide hwb
  clear hbl hwa hwb
  by_cases h200 : (200 : Int) < (kl.length : Int)
  · go_wp2
    go_ret
    exact ⟨rfl, B3.out⟩
  by_cases h12 : (12 : Int) < (al.length : Int) + (bl.length : Int)
  · go_wp2
    go_ret
    exact ⟨rfl, B3.out⟩
  go_wp2_with fail
  go_loopw [7] (fun nv wr => ∃ n : Nat, n ≤ 400 ∧ nv = .int .i64 (n : Int) ∧ Hid (Below w.heap.size w wr)) (fun nv _ => 400 - (intOf nv).toNat)
  case atStart => exact ⟨0, Nat.zero_le _, rfl, B3.out⟩
  case round =>
    clear B3
    obtain ⟨n, hn, rfl, HW⟩ := hrel
    by_cases hlt : n < 400
    rotate_left
    · have hlt2 : ¬ (n : Int) < 400 := by omega
      go_wp2
      go_ret
      exact ⟨rfl, HW.out⟩
    have hlt2 : (n : Int) < 400 := by omega
    have hnew := hide (kNew w wr HW.out 1048576 rfl)
    go_wp2_with fail
    go_at_call 11
    refine hnew.out.mono ?_
    rintro e w4 ⟨k, b, rfl, h4, lk, lb, b4⟩
    have H4 := hide h4
    clear h4 b4 hnew
    go_wp2_with fail
    go_at_call 12
    refine (VOpen_any H4.out hg 2 (by decide) (by simp) (by simp) (by simp [foundS])).mono ?_
    rintro e w5 ⟨V, vt, vw, th, rfl, h5, hperm, _, b5⟩
    have hth : th = [] := by simpa [foundS] using hperm
    subst hth
    have H5 : Hid (VAt w w5 V k b 0 ⟨[], 1048576, -1⟩ ((2 : Nat) : Int) vt vw [] []) := (show VAt _ _ _ _ _ _ _ _ _ _ _ _ by
      have h := h5
      rw [show (max 2 1 : Int) = ((2 : Nat) : Int) from rfl, show (max 1048576 0 : Int) = 1048576 from rfl] at h
      simpa [wst, fls] using h)
    clear h5 hperm b5 H4
    by_cases hae : ∀ x ∈ al, sEr x.s = 0
    rotate_left
    · have hae2 : ∃ x ∈ al, sEr x.s ≠ 0 := by
        apply Classical.byContradiction
        intro hn
        exact hae (fun x hx => Classical.byContradiction fun h => hn ⟨x, hx, h⟩)
      have hput := hide (put_bad (n := 1) (ep := 1) (xs := []) H5.out hg rfl (fun y hy => by cases hy) (by decide) (by decide) (by decide) (fun s hs => by cases hs) (HA.out.far H5.out.st.since) hae2 (by omega) (by decide) (by decide) (by decide))
      clear hae hae2
      as_aux_lemma =>
      go_wp2_with fail
      go_at_call 13
      refine hput.out.mono ?_
      rintro e w6 ⟨er, he, rfl, vt', vw', th', _, h6, _⟩
      have H6 := hide h6.st.since
      clear h6
      rcases he with rfl | rfl
      all_goals
        go_wp2
        go_ret
        exact ⟨rfl, H6.out⟩
    have hgood : ∀ x ∈ al, sEr x.s = 0 ∧ x.s.ok := fun x hx => ⟨hae x hx, HAO.out x hx⟩
    have HGA := hide hgood
    have hput := hide (put_x (n := 1) (ep := 1) (xs := []) H5.out hg rfl ⟨List.Perm.refl _, rfl, List.nodup_nil⟩ (fun y hy => by cases hy) (by decide) (by decide) (HA.out.far H5.out.st.since) hgood HWA.out (by decide) (by decide) (by decide) (fun y hy => by cases hy) (by decide) (by decide))
    obtain ⟨_, hone1, hup1, _, hfs1⟩ := One.light hgood HWA.out (n := 1) (ep := 1) (by decide) (by decide) (by decide)
    have HO1 := hide (And.intro hone1 (And.intro hup1 hfs1))
    clear hae hgood hone1 hup1 hfs1
    go_wp2_with fail
    go_at_call 13
    refine hput.out.mono ?_
    rintro e w6 ⟨rfl, p6, vt6, vw6, th6, hth6, hv6, hh6, hr6, _⟩
    have hth6' : th6.map SpV.s = [newS 1 1 (chunksOf (al.map SnV.s))] := by rw [hth6]; rfl
    have hh6' : Has p6 (FX [newS 1 1 (chunksOf (al.map SnV.s))]) := hh6
    obtain ⟨x1, hx1⟩ : ∃ x, newS 1 1 (chunksOf (al.map SnV.s)) = x := ⟨_, rfl⟩
    have HX1 := hide hx1
    rw [hx1] at hth6' hh6' HO1
    have hx1n : x1.n = 1 := by rw [← hx1]; rfl
    have hcut := hide (kCut hv6.st (n : Int) (by simp [Lit.wf, IntKind.min, IntKind.max, IntKind.signed, IntKind.bits]; omega))
    have H6 := hide (And.intro hv6 (And.intro hh6' (And.intro hth6' hr6)))
    clear hput hth6 hv6 hh6 hr6 hth6' hh6' hx1 H5
    go_wp2_with fail
    go_at_call 21
    refine hcut.out.mono ?_
    rintro e w7 ⟨rfl, s7, t7⟩
    have H7 := hide (H6.out.1.disk t7 s7)
    have HZ7 := hide (H6.out.2.1.z.cut (if p6.left = 0 then 0 else max (n : Int) (-1)))
    clear s7 t7 hcut
    generalize ({ p6 with left := if p6.left = 0 then 0 else max (n : Int) (-1) } : Pd).left = dummy
    obtain ⟨p7, hp7⟩ : ∃ p, ({ p6 with left := if p6.left = 0 then 0 else max (n : Int) (-1) } : Pd) = p := ⟨_, rfl⟩
    have hr7 : p7.room = 1048576 := by rw [← hp7]; exact H6.out.2.2.2
    rw [hp7] at H7 HZ7
    clear hp7
    by_cases hbe : ∀ x ∈ bl, sEr x.s = 0
    rotate_left
    · have hbe2 : ∃ x ∈ bl, sEr x.s ≠ 0 := by
        apply Classical.byContradiction
        intro hn
        exact hbe (fun x hx => Classical.byContradiction fun h => hn ⟨x, hx, h⟩)
      have hput := hide (put_bad (n := 2) (ep := 1) H7.out hg H6.out.2.2.1 (fun y hy => by rcases List.mem_singleton.1 hy with rfl; exact HO1.out.1) (by simp) (by decide) (by decide) (fun s hs => by cases hs) (HB.out.far H7.out.st.since) hbe2 (by omega) (by decide) (by decide) (by decide))
      clear hbe hbe2
      as_aux_lemma =>
      go_wp2_with fail
      go_at_call 13
      refine hput.out.mono ?_
      rintro e w8 ⟨er, he, rfl, vt', vw', th', _, h8, _⟩
      have HD := hide (Dead_p h8.st.d)
      have H8 := hide h8.st.since
      clear h8
      generalize (p7.left == 0) = dd at *
      rcases he with rfl | rfl
      all_goals
        go_wp2_with (go_at_call 22; refine HD.out.mono ?_; rintro e w9 ⟨rfl, rfl⟩)
        go_ret
        exact ⟨rfl, H8.out⟩
    have hgoodB : ∀ x ∈ bl, sEr x.s = 0 ∧ x.s.ok := fun x hx => ⟨hbe x hx, HBO.out x hx⟩
    have HGB := hide hgoodB
    have hput := hide (put_cut H7.out hg H6.out.2.2.1 HZ7.out HO1.out.1 (HB.out.far H7.out.st.since) hgoodB HWB.out (by omega) (by rw [hr7]; have := HO1.out.2.2; omega) (by decide))
    obtain ⟨_, hone2, hup2, _, _⟩ := One.light hgoodB HWB.out (n := 2) (ep := 1) (by decide) (by decide) (by decide)
    obtain ⟨x2, hx2⟩ : ∃ x, newS 2 1 (chunksOf (bl.map SnV.s)) = x := ⟨_, rfl⟩
    have HX2 := hide hx2
    have hx2n : x2.n = 2 := by rw [← hx2]; rfl
    have hup2' : ∀ c ∈ x2.chunks, upOk c = true := by rw [← hx2]; exact hup2
    have hup1' : ∀ c ∈ x1.chunks, upOk c = true := by rw [← HX1.out]; exact HO1.out.2.1
    rw [hx2] at hput hone2
    have HO2 := hide (And.intro hone2 (And.intro hup2' hup1'))
    clear hbe hgoodB hone2 hup2 hup2' hup1' hx2
    go_wp2_with fail
    go_at_call 13
    refine hput.out.mono ?_
    rintro e w8 ⟨er, q, rfl, s8, hq⟩
    have HD := hide (Dead_p s8.d)
    have S8 := hide s8
    have hcr := hide (kCrash s8 (.slice ka kl.length kc) kl (fun w' ht => by
      have hb := (s8.s.step ht).below
      exact (HK.out.below hb).mono hb.size) _ rfl)
    obtain ⟨dd, hdd⟩ : ∃ d, (q.left == 0) = d := ⟨_, rfl⟩
    rw [hdd] at HD
    clear hput s8 hdd H6 H7 HZ7
    have HP12 : Hid ([x1, x2].Pairwise fun a b => a.n < b.n) := (show List.Pairwise _ _ by simp [hx1n, hx2n])
    rcases hq with ⟨rfl, hq⟩ | ⟨rfl, E, hq, hE⟩
    · have hop : Hid (∀ w' : World, St w w' k b (0 + 3000 + 3000) (pCrash q kl) → Calls Tryz.prog 12 #[.pointer (some ⟨k, 0, none⟩), .int .i64 2] w' fun e w'' => ∃ V vt vw th ws, e = .returned (.tuple #[.pointer (some ⟨V, 0, none⟩), .int .i64 0]) ∧ VAt w w'' V k b (0 + 3000 + 3000) (pCrash q kl) (max 2 1) vt vw th ws ∧ th.map SpV.s = [x1, x2] ∧ Srt th ∧ Below w'.heap.size w' w'') := fun w' s => open_cut (E := []) (x2 := x2) kl (by simpa using hq) ⟨by simp, fun f hf => by cases hf⟩ HO2.out.1 (fun x hx => by
          simp only [List.mem_cons, List.not_mem_nil, or_false] at hx
          rcases hx with rfl | rfl
          · exact HO1.out.1
          · exact HO2.out.1) (fun x hx => by
          simp only [List.mem_cons, List.not_mem_nil, or_false] at hx
          rcases hx with rfl | rfl
          · exact HO2.out.2.2
          · exact HO2.out.2.1) HP12.out (by simp) s hg 2
      have hnew2 : ∀ th : List SpV, th.map SpV.s = [x1, x2] → newest th = 2 ∧ th.length = 2 ∧ th.any (fun x => x.n == 1) = true ∧ newS 2 1 (chunksOf (bl.map SnV.s)) ∈ th.map SpV.s := fun th h => by
        have hl := congrArg List.length h
        rw [List.length_map] at hl
        refine ⟨by rw [newest_s, h]; exact hx2n, by simpa using hl, ?_, by rw [h, HX2.out]; simp⟩
        rw [List.any_eq_true]
        obtain ⟨y, hy, hys⟩ := List.mem_map.1 (show x1 ∈ th.map SpV.s by rw [h]; simp)
        exact ⟨y, hy, by have : y.n = x1.n := congrArg Sp.n hys; simp [this, hx1n]⟩
      have HNEW := hide hnew2
      clear hq hnew2 HO1 HO2 HP12 HX1 HX2
      as_aux_lemma =>
      go_wp2_with (go_at_call 22; refine HD.out.mono ?_; rintro e w9 ⟨rfl, hw9⟩; subst hw9)
      go_at_call 23
      refine hcr.out.mono ?_
      rintro e w10 ⟨rfl, s10, t10⟩
      have S10 := hide s10
      clear s10 t10 hcr
      go_wp2_with fail
      go_at_call 12
      refine (hop.out _ S10.out).mono ?_
      rintro e w11 ⟨V2, vt2, vw2, th2, ws2, rfl, hv2, hth2, hsrt, b11⟩
      obtain ⟨hnw, hln, han, hmem⟩ := HNEW.out th2 hth2
      have hnst := newest_any hv2 (by omega)
      rw [hnw, hln] at hnst
      have HN2 := hide hnst
      have HV2 := hide hv2
      have HM2 := hide (And.intro hsrt (And.intro han (And.intro hmem hln)))
      clear hv2 hth2 hsrt b11 hnst hnw hln han hmem hop HNEW S10
      go_wp2_with fail
      go_at_call 24
      refine HN2.out.mono ?_
      rintro e w12 ⟨rfl, b12⟩
      have hv12 := HV2.out.below b12
      have hhas := has_any hv12 (by have := HM2.out.2.2.2; omega) HM2.out.1 1
      rw [HM2.out.2.1] at hhas
      have HHAS := hide hhas
      have HV12 := hide hv12
      clear b12 hv12 hhas HN2
      go_wp2_with (go_at_call 15; refine HHAS.out.mono ?_; rintro e w13 ⟨rfl, b13⟩; have HV13 := hide (HV12.out.below b13); clear b13 HV12)
      go_at_call 25
      refine (get_newS HV13.out hg HM2.out.1 (by have := HM2.out.2.2.2; omega) HM2.out.2.2.1 HGB.out HWB.out (by decide) (by decide) (vn := 2) rfl).mono ?_
      rintro e w14 ⟨a9, c9, xs9, rfl, o9, k9, b9, i9⟩
      have HG9 := hide (And.intro o9 (And.intro k9 i9))
      have B9 := hide b9
      have HS14 := hide (HV13.out.st.since.trans (b9.mono HV13.out.st.since.size))
      have hxl : xs9.length = bl.length := by
        have h1 := congrArg List.length i9
        rwa [List.length_map, List.length_map] at h1
      have HXL := hide hxl
      clear o9 k9 b9 i9 hxl
      go_wp2_with fail
      go_loopw [20] (fun kv wq => ∃ k3 : Nat, k3 ≤ bl.length ∧ kv = .int .i64 k3 ∧ Hid (Below w14.heap.size w14 wq)) (fun kv _ => bl.length - (intOf kv).toNat)
      case atStart => exact ⟨0, Nat.zero_le _, rfl, Below.refl _ _⟩
      case round =>
        obtain ⟨k3, hk3, rfl, HI3⟩ := hrel
        by_cases hlt3 : k3 < bl.length
        rotate_left
        · have HEN := hide (HS14.out.trans (HI3.out.mono HS14.out.size))
          cases dd
          · go_wp2
            go_ret
            exact ⟨rfl, HEN.out⟩
          · go_wp2
            go_roundw
            case rel => exact ⟨n + 1, by omega, by go_num, HEN.out⟩
            case measure => simp [intOf]; omega
        have hlt3i : (k3 : Int) < (bl.length : Int) := by omega
        obtain ⟨z, hz⟩ : ∃ z, bl[k3]? = some z := ⟨_, List.getElem?_eq_getElem hlt3⟩
        obtain ⟨y, hy⟩ : ∃ y, xs9[k3]? = some y := ⟨_, List.getElem?_eq_getElem (by rw [HXL.out]; exact hlt3)⟩
        have hyz : y.s = z.s := by
          have h1 := congrArg (fun l => l[k3]?) HG9.out.2.2
          simpa [hy, hz] using h1
        have hsw : Below w.heap.size w wr := HS14.out.trans (HI3.out.mono HS14.out.size)
        have hzs : SnSeg wr.heap.size wr (.slice z.am z.s.marks.length z.cm) (.slice z.ap z.s.panes.length z.cp) (.slice z.ac z.s.outs.length z.cc) z.s := ((HB.out.each z (List.mem_of_getElem? hz)).below hsw).mono hsw.size
        have hlz := hzs.lens
        have hys : SnSeg wr.heap.size wr (.slice y.am y.s.marks.length y.cm) (.slice y.ap y.s.panes.length y.cp) (.slice y.ac y.s.outs.length y.cc) y.s := OwnSn.segG ((HG9.out.2.1 y (List.mem_of_getElem? hy)).below HI3.out) (by rw [hyz]; exact hlz)
        have hdr : Below wr.heap.size wr wr.drew := (Below.refl _ _).drew
        have hhs := @helpSnap_any decPn decOt decSn y.s z.s _ _ _ _ _ _ wr.drew (hys.below hdr) (hzs.below hdr)
        rw [show (@decide (y.s = z.s) (decSn y.s z.s)) = true from @decide_eq_true _ (decSn y.s z.s) hyz] at hhs
        have hhs2 := hide hhs
        clear hhs
        obtain ⟨g9, o9, p9, e9, hc9⟩ := (Row.of_own HG9.out.1).read (fun _ => rfl) hy
        have e91 := (Value.slice.inj e9).1
        have e93 := (Value.slice.inj e9).2.2
        subst e91
        subst e93
        have hgl9 : g9 < w14.heap.size := by
          obtain ⟨cur, hcur⟩ := (Row.of_own HG9.out.1).has g9 rfl
          exact hcur.lt
        have cy : ∀ j u, (SnV.cs y)[j]? = some u → wr.cell? ⟨g9, o9 + k3 * 6 + j, none⟩ = some u := fun j u hu => by
          rw [Nat.add_assoc]
          exact (HI3.out.cell (p := ⟨g9, o9 + (k3 * 6 + j), none⟩) hgl9).trans (hc9 j u hu)
        obtain ⟨gz, oz, ez, hgz, hcz⟩ := HB.out.row.at_ hz
        have cz : ∀ j u, (SnV.cs z)[j]? = some u → wr.cell? ⟨gz, oz + k3 * 6 + j, none⟩ = some u := fun j u hu => (hsw.cell (p := ⟨gz, oz + k3 * 6 + j, none⟩) hgz).trans (hcz k3 z hz j u hu)
        subst ez
        have y0 := cy 0 _ rfl
        have y1 := cy 1 _ rfl
        have y2 := cy 2 _ rfl
        have y3 := cy 3 _ rfl
        have y4 := cy 4 _ rfl
        have y5 := cy 5 _ rfl
        have z0 := cz 0 _ rfl
        have z1 := cz 1 _ rfl
        have z2 := cz 2 _ rfl
        have z3 := cz 3 _ rfl
        have z4 := cz 4 _ rfl
        have z5 := cz 5 _ rfl
        simp only [Nat.add_zero] at y0 z0
        have HDR := hide hdr
        clear hdr cy cz hc9 hcz hys hzs hyz hz hy hsw hlz e9
        go_wp2_with fail
        go_region_held3 (fun w' => w'.cell? ⟨g9, o9 + k3 * 6, none⟩ = some (.int .i64 y.s.task) ∧ w'.cell? ⟨g9, o9 + k3 * 6 + 1, none⟩ = some (.int .i64 y.s.off) ∧ w'.cell? ⟨g9, o9 + k3 * 6 + 2, none⟩ = some (.int .i64 y.s.mark) ∧ w'.cell? ⟨g9, o9 + k3 * 6 + 3, none⟩ = some (.slice y.am y.s.marks.length y.cm) ∧ w'.cell? ⟨g9, o9 + k3 * 6 + 4, none⟩ = some (.slice y.ap y.s.panes.length y.cp) ∧ w'.cell? ⟨g9, o9 + k3 * 6 + 5, none⟩ = some (.slice y.ac y.s.outs.length y.cc) ∧ w'.cell? ⟨gz, oz + k3 * 6, none⟩ = some (.int .i64 z.s.task) ∧ w'.cell? ⟨gz, oz + k3 * 6 + 1, none⟩ = some (.int .i64 z.s.off) ∧ w'.cell? ⟨gz, oz + k3 * 6 + 2, none⟩ = some (.int .i64 z.s.mark) ∧ w'.cell? ⟨gz, oz + k3 * 6 + 3, none⟩ = some (.slice z.am z.s.marks.length z.cm) ∧ w'.cell? ⟨gz, oz + k3 * 6 + 4, none⟩ = some (.slice z.ap z.s.panes.length z.cp) ∧ w'.cell? ⟨gz, oz + k3 * 6 + 5, none⟩ = some (.slice z.ac z.s.outs.length z.cc)) (first | exact ⟨y0, y1, y2, y3, y4, y5, z0, z1, z2, z3, z4, z5⟩ | exact HC.out) (first | (go_at_call 26; refine hhs2.out.mono ?_; rintro e w15 ⟨rfl, b10⟩; have b10 : Below wr.heap.size wr w15 := HDR.out.trans b10; have B10 := hide b10; have HC : Hid ((fun w' : World => w'.cell? ⟨g9, o9 + k3 * 6, none⟩ = some (.int .i64 y.s.task) ∧ w'.cell? ⟨g9, o9 + k3 * 6 + 1, none⟩ = some (.int .i64 y.s.off) ∧ w'.cell? ⟨g9, o9 + k3 * 6 + 2, none⟩ = some (.int .i64 y.s.mark) ∧ w'.cell? ⟨g9, o9 + k3 * 6 + 3, none⟩ = some (.slice y.am y.s.marks.length y.cm) ∧ w'.cell? ⟨g9, o9 + k3 * 6 + 4, none⟩ = some (.slice y.ap y.s.panes.length y.cp) ∧ w'.cell? ⟨g9, o9 + k3 * 6 + 5, none⟩ = some (.slice y.ac y.s.outs.length y.cc) ∧ w'.cell? ⟨gz, oz + k3 * 6, none⟩ = some (.int .i64 z.s.task) ∧ w'.cell? ⟨gz, oz + k3 * 6 + 1, none⟩ = some (.int .i64 z.s.off) ∧ w'.cell? ⟨gz, oz + k3 * 6 + 2, none⟩ = some (.int .i64 z.s.mark) ∧ w'.cell? ⟨gz, oz + k3 * 6 + 3, none⟩ = some (.slice z.am z.s.marks.length z.cm) ∧ w'.cell? ⟨gz, oz + k3 * 6 + 4, none⟩ = some (.slice z.ap z.s.panes.length z.cp) ∧ w'.cell? ⟨gz, oz + k3 * 6 + 5, none⟩ = some (.slice z.ac z.s.outs.length z.cc)) w15) := ⟨(Below.cell b10 (p := ⟨g9, o9 + k3 * 6, none⟩) (World.block_lt_of_cell? wr ⟨g9, o9 + k3 * 6, none⟩ y0)).trans y0, (Below.cell b10 (p := ⟨g9, o9 + k3 * 6 + 1, none⟩) (World.block_lt_of_cell? wr ⟨g9, o9 + k3 * 6 + 1, none⟩ y1)).trans y1, (Below.cell b10 (p := ⟨g9, o9 + k3 * 6 + 2, none⟩) (World.block_lt_of_cell? wr ⟨g9, o9 + k3 * 6 + 2, none⟩ y2)).trans y2, (Below.cell b10 (p := ⟨g9, o9 + k3 * 6 + 3, none⟩) (World.block_lt_of_cell? wr ⟨g9, o9 + k3 * 6 + 3, none⟩ y3)).trans y3, (Below.cell b10 (p := ⟨g9, o9 + k3 * 6 + 4, none⟩) (World.block_lt_of_cell? wr ⟨g9, o9 + k3 * 6 + 4, none⟩ y4)).trans y4, (Below.cell b10 (p := ⟨g9, o9 + k3 * 6 + 5, none⟩) (World.block_lt_of_cell? wr ⟨g9, o9 + k3 * 6 + 5, none⟩ y5)).trans y5, (Below.cell b10 (p := ⟨gz, oz + k3 * 6, none⟩) (World.block_lt_of_cell? wr ⟨gz, oz + k3 * 6, none⟩ z0)).trans z0, (Below.cell b10 (p := ⟨gz, oz + k3 * 6 + 1, none⟩) (World.block_lt_of_cell? wr ⟨gz, oz + k3 * 6 + 1, none⟩ z1)).trans z1, (Below.cell b10 (p := ⟨gz, oz + k3 * 6 + 2, none⟩) (World.block_lt_of_cell? wr ⟨gz, oz + k3 * 6 + 2, none⟩ z2)).trans z2, (Below.cell b10 (p := ⟨gz, oz + k3 * 6 + 3, none⟩) (World.block_lt_of_cell? wr ⟨gz, oz + k3 * 6 + 3, none⟩ z3)).trans z3, (Below.cell b10 (p := ⟨gz, oz + k3 * 6 + 4, none⟩) (World.block_lt_of_cell? wr ⟨gz, oz + k3 * 6 + 4, none⟩ z4)).trans z4, (Below.cell b10 (p := ⟨gz, oz + k3 * 6 + 5, none⟩) (World.block_lt_of_cell? wr ⟨gz, oz + k3 * 6 + 5, none⟩ z5)).trans z5⟩; clear b10))
        go_wp2_with fail
        go_roundw
        case rel => exact ⟨k3 + 1, by omega, by go_num, HI3.out.trans (B10.out.mono HI3.out.size)⟩
        case measure => simp [intOf]; omega
    · have hop : Hid (∀ w' : World, St w w' k b (0 + 3000 + 3000) (pCrash q kl) → Calls Tryz.prog 12 #[.pointer (some ⟨k, 0, none⟩), .int .i64 2] w' fun e w'' => ∃ V vt vw th ws, e = .returned (.tuple #[.pointer (some ⟨V, 0, none⟩), .int .i64 0]) ∧ VAt w w'' V k b (0 + 3000 + 3000) (pCrash q kl) (max 2 1) vt vw th ws ∧ th.map SpV.s = [x1] ∧ Srt th ∧ Below w'.heap.size w' w'') := fun w' s => open_cut (E := E) (x2 := x2) kl hq hE HO2.out.1 (fun x hx => by rcases List.mem_singleton.1 hx with rfl; exact HO1.out.1) (fun x hx => by rcases List.mem_singleton.1 hx with rfl; exact HO2.out.2.2) (by simp) (by simp) s hg 2
      have hnew2 : ∀ th : List SpV, th.map SpV.s = [x1] → newest th = 1 ∧ th.length = 1 ∧ th.any (fun x => x.n == 1) = true ∧ newS 1 1 (chunksOf (al.map SnV.s)) ∈ th.map SpV.s := fun th h => by
        have hl := congrArg List.length h
        rw [List.length_map] at hl
        refine ⟨by rw [newest_s, h]; exact hx1n, by simpa using hl, ?_, by rw [h, HX1.out]; simp⟩
        rw [List.any_eq_true]
        obtain ⟨y, hy, hys⟩ := List.mem_map.1 (show x1 ∈ th.map SpV.s by rw [h]; simp)
        exact ⟨y, hy, by have : y.n = x1.n := congrArg Sp.n hys; simp [this, hx1n]⟩
      have HNEW := hide hnew2
      clear hq hE hnew2 HO1 HO2 HP12 HX1 HX2
      as_aux_lemma =>
      go_wp2_with (go_at_call 22; refine HD.out.mono ?_; rintro e w9 ⟨rfl, hw9⟩; subst hw9)
      go_at_call 23
      refine hcr.out.mono ?_
      rintro e w10 ⟨rfl, s10, t10⟩
      have S10 := hide s10
      clear s10 t10 hcr
      go_wp2_with fail
      go_at_call 12
      refine (hop.out _ S10.out).mono ?_
      rintro e w11 ⟨V2, vt2, vw2, th2, ws2, rfl, hv2, hth2, hsrt, b11⟩
      obtain ⟨hnw, hln, han, hmem⟩ := HNEW.out th2 hth2
      have hnst := newest_any hv2 (by omega)
      rw [hnw, hln] at hnst
      have HN2 := hide hnst
      have HV2 := hide hv2
      have HM2 := hide (And.intro hsrt (And.intro han (And.intro hmem hln)))
      clear hv2 hth2 hsrt b11 hnst hnw hln han hmem hop HNEW S10
      go_wp2_with fail
      go_at_call 24
      refine HN2.out.mono ?_
      rintro e w12 ⟨rfl, b12⟩
      have hv12 := HV2.out.below b12
      have hhas := has_any hv12 (by have := HM2.out.2.2.2; omega) HM2.out.1 1
      rw [HM2.out.2.1] at hhas
      have HHAS := hide hhas
      have HV12 := hide hv12
      clear b12 hv12 hhas HN2
      go_wp2_with (go_at_call 15; refine HHAS.out.mono ?_; rintro e w13 ⟨rfl, b13⟩; have HV13 := hide (HV12.out.below b13); clear b13 HV12)
      go_at_call 25
      refine (get_newS HV13.out hg HM2.out.1 (by have := HM2.out.2.2.2; omega) HM2.out.2.2.1 HGA.out HWA.out (by decide) (by decide) (vn := 1) rfl).mono ?_
      rintro e w14 ⟨a9, c9, xs9, rfl, o9, k9, b9, i9⟩
      have HG9 := hide (And.intro o9 (And.intro k9 i9))
      have B9 := hide b9
      have HS14 := hide (HV13.out.st.since.trans (b9.mono HV13.out.st.since.size))
      have hxl : xs9.length = al.length := by
        have h1 := congrArg List.length i9
        rwa [List.length_map, List.length_map] at h1
      have HXL := hide hxl
      clear o9 k9 b9 i9 hxl
      go_wp2_with fail
      go_loopw [20] (fun kv wq => ∃ k3 : Nat, k3 ≤ al.length ∧ kv = .int .i64 k3 ∧ Hid (Below w14.heap.size w14 wq)) (fun kv _ => al.length - (intOf kv).toNat)
      case atStart => exact ⟨0, Nat.zero_le _, rfl, Below.refl _ _⟩
      case round =>
        obtain ⟨k3, hk3, rfl, HI3⟩ := hrel
        by_cases hlt3 : k3 < al.length
        rotate_left
        · have HEN := hide (HS14.out.trans (HI3.out.mono HS14.out.size))
          go_wp2
          go_roundw
          case rel => exact ⟨n + 1, by omega, by go_num, HEN.out⟩
          case measure => simp [intOf]; omega
        have hlt3i : (k3 : Int) < (al.length : Int) := by omega
        obtain ⟨z, hz⟩ : ∃ z, al[k3]? = some z := ⟨_, List.getElem?_eq_getElem hlt3⟩
        obtain ⟨y, hy⟩ : ∃ y, xs9[k3]? = some y := ⟨_, List.getElem?_eq_getElem (by rw [HXL.out]; exact hlt3)⟩
        have hyz : y.s = z.s := by
          have h1 := congrArg (fun l => l[k3]?) HG9.out.2.2
          simpa [hy, hz] using h1
        have hsw : Below w.heap.size w wr := HS14.out.trans (HI3.out.mono HS14.out.size)
        have hzs : SnSeg wr.heap.size wr (.slice z.am z.s.marks.length z.cm) (.slice z.ap z.s.panes.length z.cp) (.slice z.ac z.s.outs.length z.cc) z.s := ((HA.out.each z (List.mem_of_getElem? hz)).below hsw).mono hsw.size
        have hlz := hzs.lens
        have hys : SnSeg wr.heap.size wr (.slice y.am y.s.marks.length y.cm) (.slice y.ap y.s.panes.length y.cp) (.slice y.ac y.s.outs.length y.cc) y.s := OwnSn.segG ((HG9.out.2.1 y (List.mem_of_getElem? hy)).below HI3.out) (by rw [hyz]; exact hlz)
        have hdr : Below wr.heap.size wr wr.drew := (Below.refl _ _).drew
        have hhs := @helpSnap_any decPn decOt decSn y.s z.s _ _ _ _ _ _ wr.drew (hys.below hdr) (hzs.below hdr)
        rw [show (@decide (y.s = z.s) (decSn y.s z.s)) = true from @decide_eq_true _ (decSn y.s z.s) hyz] at hhs
        have hhs2 := hide hhs
        clear hhs
        obtain ⟨g9, o9, p9, e9, hc9⟩ := (Row.of_own HG9.out.1).read (fun _ => rfl) hy
        have e91 := (Value.slice.inj e9).1
        have e93 := (Value.slice.inj e9).2.2
        subst e91
        subst e93
        have hgl9 : g9 < w14.heap.size := by
          obtain ⟨cur, hcur⟩ := (Row.of_own HG9.out.1).has g9 rfl
          exact hcur.lt
        have cy : ∀ j u, (SnV.cs y)[j]? = some u → wr.cell? ⟨g9, o9 + k3 * 6 + j, none⟩ = some u := fun j u hu => by
          rw [Nat.add_assoc]
          exact (HI3.out.cell (p := ⟨g9, o9 + (k3 * 6 + j), none⟩) hgl9).trans (hc9 j u hu)
        obtain ⟨gz, oz, ez, hgz, hcz⟩ := HA.out.row.at_ hz
        have cz : ∀ j u, (SnV.cs z)[j]? = some u → wr.cell? ⟨gz, oz + k3 * 6 + j, none⟩ = some u := fun j u hu => (hsw.cell (p := ⟨gz, oz + k3 * 6 + j, none⟩) hgz).trans (hcz k3 z hz j u hu)
        subst ez
        have y0 := cy 0 _ rfl
        have y1 := cy 1 _ rfl
        have y2 := cy 2 _ rfl
        have y3 := cy 3 _ rfl
        have y4 := cy 4 _ rfl
        have y5 := cy 5 _ rfl
        have z0 := cz 0 _ rfl
        have z1 := cz 1 _ rfl
        have z2 := cz 2 _ rfl
        have z3 := cz 3 _ rfl
        have z4 := cz 4 _ rfl
        have z5 := cz 5 _ rfl
        simp only [Nat.add_zero] at y0 z0
        have HDR := hide hdr
        clear hdr cy cz hc9 hcz hys hzs hyz hz hy hsw hlz e9
        go_wp2_with fail
        go_region_held3 (fun w' => w'.cell? ⟨g9, o9 + k3 * 6, none⟩ = some (.int .i64 y.s.task) ∧ w'.cell? ⟨g9, o9 + k3 * 6 + 1, none⟩ = some (.int .i64 y.s.off) ∧ w'.cell? ⟨g9, o9 + k3 * 6 + 2, none⟩ = some (.int .i64 y.s.mark) ∧ w'.cell? ⟨g9, o9 + k3 * 6 + 3, none⟩ = some (.slice y.am y.s.marks.length y.cm) ∧ w'.cell? ⟨g9, o9 + k3 * 6 + 4, none⟩ = some (.slice y.ap y.s.panes.length y.cp) ∧ w'.cell? ⟨g9, o9 + k3 * 6 + 5, none⟩ = some (.slice y.ac y.s.outs.length y.cc) ∧ w'.cell? ⟨gz, oz + k3 * 6, none⟩ = some (.int .i64 z.s.task) ∧ w'.cell? ⟨gz, oz + k3 * 6 + 1, none⟩ = some (.int .i64 z.s.off) ∧ w'.cell? ⟨gz, oz + k3 * 6 + 2, none⟩ = some (.int .i64 z.s.mark) ∧ w'.cell? ⟨gz, oz + k3 * 6 + 3, none⟩ = some (.slice z.am z.s.marks.length z.cm) ∧ w'.cell? ⟨gz, oz + k3 * 6 + 4, none⟩ = some (.slice z.ap z.s.panes.length z.cp) ∧ w'.cell? ⟨gz, oz + k3 * 6 + 5, none⟩ = some (.slice z.ac z.s.outs.length z.cc)) (first | exact ⟨y0, y1, y2, y3, y4, y5, z0, z1, z2, z3, z4, z5⟩ | exact HC.out) (first | (go_at_call 26; refine hhs2.out.mono ?_; rintro e w15 ⟨rfl, b10⟩; have b10 : Below wr.heap.size wr w15 := HDR.out.trans b10; have B10 := hide b10; have HC : Hid ((fun w' : World => w'.cell? ⟨g9, o9 + k3 * 6, none⟩ = some (.int .i64 y.s.task) ∧ w'.cell? ⟨g9, o9 + k3 * 6 + 1, none⟩ = some (.int .i64 y.s.off) ∧ w'.cell? ⟨g9, o9 + k3 * 6 + 2, none⟩ = some (.int .i64 y.s.mark) ∧ w'.cell? ⟨g9, o9 + k3 * 6 + 3, none⟩ = some (.slice y.am y.s.marks.length y.cm) ∧ w'.cell? ⟨g9, o9 + k3 * 6 + 4, none⟩ = some (.slice y.ap y.s.panes.length y.cp) ∧ w'.cell? ⟨g9, o9 + k3 * 6 + 5, none⟩ = some (.slice y.ac y.s.outs.length y.cc) ∧ w'.cell? ⟨gz, oz + k3 * 6, none⟩ = some (.int .i64 z.s.task) ∧ w'.cell? ⟨gz, oz + k3 * 6 + 1, none⟩ = some (.int .i64 z.s.off) ∧ w'.cell? ⟨gz, oz + k3 * 6 + 2, none⟩ = some (.int .i64 z.s.mark) ∧ w'.cell? ⟨gz, oz + k3 * 6 + 3, none⟩ = some (.slice z.am z.s.marks.length z.cm) ∧ w'.cell? ⟨gz, oz + k3 * 6 + 4, none⟩ = some (.slice z.ap z.s.panes.length z.cp) ∧ w'.cell? ⟨gz, oz + k3 * 6 + 5, none⟩ = some (.slice z.ac z.s.outs.length z.cc)) w15) := ⟨(Below.cell b10 (p := ⟨g9, o9 + k3 * 6, none⟩) (World.block_lt_of_cell? wr ⟨g9, o9 + k3 * 6, none⟩ y0)).trans y0, (Below.cell b10 (p := ⟨g9, o9 + k3 * 6 + 1, none⟩) (World.block_lt_of_cell? wr ⟨g9, o9 + k3 * 6 + 1, none⟩ y1)).trans y1, (Below.cell b10 (p := ⟨g9, o9 + k3 * 6 + 2, none⟩) (World.block_lt_of_cell? wr ⟨g9, o9 + k3 * 6 + 2, none⟩ y2)).trans y2, (Below.cell b10 (p := ⟨g9, o9 + k3 * 6 + 3, none⟩) (World.block_lt_of_cell? wr ⟨g9, o9 + k3 * 6 + 3, none⟩ y3)).trans y3, (Below.cell b10 (p := ⟨g9, o9 + k3 * 6 + 4, none⟩) (World.block_lt_of_cell? wr ⟨g9, o9 + k3 * 6 + 4, none⟩ y4)).trans y4, (Below.cell b10 (p := ⟨g9, o9 + k3 * 6 + 5, none⟩) (World.block_lt_of_cell? wr ⟨g9, o9 + k3 * 6 + 5, none⟩ y5)).trans y5, (Below.cell b10 (p := ⟨gz, oz + k3 * 6, none⟩) (World.block_lt_of_cell? wr ⟨gz, oz + k3 * 6, none⟩ z0)).trans z0, (Below.cell b10 (p := ⟨gz, oz + k3 * 6 + 1, none⟩) (World.block_lt_of_cell? wr ⟨gz, oz + k3 * 6 + 1, none⟩ z1)).trans z1, (Below.cell b10 (p := ⟨gz, oz + k3 * 6 + 2, none⟩) (World.block_lt_of_cell? wr ⟨gz, oz + k3 * 6 + 2, none⟩ z2)).trans z2, (Below.cell b10 (p := ⟨gz, oz + k3 * 6 + 3, none⟩) (World.block_lt_of_cell? wr ⟨gz, oz + k3 * 6 + 3, none⟩ z3)).trans z3, (Below.cell b10 (p := ⟨gz, oz + k3 * 6 + 4, none⟩) (World.block_lt_of_cell? wr ⟨gz, oz + k3 * 6 + 4, none⟩ z4)).trans z4, (Below.cell b10 (p := ⟨gz, oz + k3 * 6 + 5, none⟩) (World.block_lt_of_cell? wr ⟨gz, oz + k3 * 6 + 5, none⟩ z5)).trans z5⟩; clear b10))
        go_wp2_with fail
        go_roundw
        case rel => exact ⟨k3 + 1, by omega, by go_num, HI3.out.trans (B10.out.mono HI3.out.size)⟩
        case measure => simp [intOf]; omega
end Go.Proofs.YtbfhcbihgleddaaGreatDoor

/-
  The law of parts and manifests that are cut off, or have one byte more, walked.
-/
import Derived.Test.YtaajjejgjnlbgabDoorMathCuts
import Derived.Test.YtaajjejgjnlbgabDoorOpenSnap
import Derived.Test.YtaajjejgjnlbgabDoorHelpS
import Derived.Test.YtaajjejgjnlbgabDoorKnown
import Derived.Test.YtaajjejgjnlbgabDoorRefSeal
namespace Go.Proofs.YtaajjejgjnlbgabDoor
open Go.RowKit

/-- In the midst of the law: its two boxes, and that what was there is as it was. -/
structure LC (w W : World) (sc mc : Array Value) : Prop where
  bs : BoxT 26 W w.heap.size sc
  bm : BoxT 30 W (w.heap.size + 1) mc
  bel : Below w.heap.size w W
  gl : Glob W
theorem LC.step {w W W' : World} {sc mc : Array Value} (h : LC w W sc mc) (hb : Below W.heap.size W W') : LC w W' sc mc :=
  ⟨h.bs.kept (base := 0) (Kept.of_below hb) (by decide), h.bm.kept (base := 0) (Kept.of_below hb) (by decide), h.bel.trans (hb.mono h.bel.size), h.gl.below hb h.gl.1⟩
theorem LC.kept {w W W' : World} {B : Nat} {sc mc : Array Value} (h : LC w W sc mc) (hk : Kept B W W') (hB : w.heap.size ≤ B) (hB2 : B ≤ W.heap.size) (h0 : 0 < w.heap.size) : LC w W' sc mc :=
  ⟨h.bs.kept hk (by decide), h.bm.kept hk (by decide), h.bel.trans ((hk.below hB2).mono hB), h.gl.kept hk (by omega)⟩
theorem LC.start (w : World) (sc mc : Array Value) (hg : Glob w) : LC w ((w.alloc (.cells sc 26)).alloc (.cells mc 30)) sc mc := by
  have hb : Below w.heap.size w ((w.alloc (.cells sc 26)).alloc (.cells mc 30)) := ((Below.refl _ _).alloc (Nat.le_refl _) _).alloc (by simp) _
  exact ⟨(BoxT.new 26 w sc).alloc _, BoxT.new_at (by simp), hb, hg.below hb hg.1⟩
theorem SnSeg.lc {w W : World} {sc mc : Array Value} {vm vp vc : Value} {s : Sn} (h : SnSeg w.heap.size w vm vp vc s) (q : LC w W sc mc) : SnSeg W.heap.size W vm vp vc s := (h.below q.bel).mono q.bel.size
theorem SSeg.lc {w W : World} {sc mc : Array Value} {v : Value} {ss : List ByteArray} (h : SSeg w.heap.size w v ss) (q : LC w W sc mc) : SSeg W.heap.size W v ss := (h.below q.bel).mono q.bel.size
theorem Byts.first {l : List Nat} (h : Byts l) (k : Nat) : Byts (l.take k) := fun i x hx => by
  rw [List.getElem?_take] at hx
  split at hx
  · exact h i x hx
  · cases hx
theorem sEr_zero {s : Sn} (h : sEr s = 0) : s.big = false ∧ s.form = true := by
  unfold sEr at h
  rcases Bool.eq_false_or_eq_true s.big with hb | hb <;> rcases Bool.eq_false_or_eq_true s.form with hf | hf <;> simp [hb, hf] at h ⊢
/-- What is read of a part that is cut off, or has a byte more. -/
theorem snap_cut {s : Sn} (he : sEr s = 0) (ho : s.ok) {k : Nat} (hk : k < (sOut s).length) : oEr (rSnap ((sOut s).take k, false)) = 10 ∧ oSn (rSnap ((sOut s).take k, false)) = Sn.nil := by
  obtain ⟨hb, hf⟩ := sEr_zero he
  have e : sOut s = snb s := by unfold sOut; rw [hb, hf]; rfl
  rw [e] at hk ⊢
  have hr := rSnap_of s hb hf ho []
  rw [List.append_nil] at hr
  have := cut_no mono_snap hr hk
  unfold oEr oSn
  rw [this]
  exact ⟨rfl, rfl⟩
theorem snap_more {s : Sn} (he : sEr s = 0) (ho : s.ok) : oEr (rSnap (sOut s ++ [0], false)) = 10 ∧ oSn (rSnap (sOut s ++ [0], false)) = Sn.nil := by
  obtain ⟨hb, hf⟩ := sEr_zero he
  have e : sOut s = snb s := by unfold sOut; rw [hb, hf]; rfl
  rw [e]
  unfold oEr oSn
  rw [rSnap_of s hb hf ho [0]]
  exact ⟨rfl, rfl⟩
theorem sOut_pos {s : Sn} (he : sEr s = 0) : sOut s ≠ [] := by
  obtain ⟨hb, hf⟩ := sEr_zero he
  have e : sOut s = snb s := by unfold sOut; rw [hb, hf]; rfl
  intro h
  have := congrArg List.length (e.symm.trans h)
  simp [snb, be_length] at this
theorem mEr_zero {ss : List ByteArray} (h : mEr ss = 0) : mfits ss = true := by
  unfold mEr at h
  rcases Bool.eq_false_or_eq_true (mfits ss) with hf | hf <;> simp [hf] at h ⊢
theorem man_cut {n ep : Int} {ss : List ByteArray} (he : mEr ss = 0) (h1 : U64 n) (h2 : U64 ep) {k : Nat} (hk : k < (mOut n ep ss).length) : done (rMan ((mOut n ep ss).take k, false)).2 = false := by
  have hf := mEr_zero he
  have e : mOut n ep ss = manb n ep ss := by unfold mOut; rw [hf]; rfl
  rw [e] at hk ⊢
  have hr := rMan_of n ep ss [] h1 h2 hf
  rw [List.append_nil] at hr
  exact cut_no mono_man hr hk
theorem man_more {n ep : Int} {ss : List ByteArray} (he : mEr ss = 0) (h1 : U64 n) (h2 : U64 ep) : done (rMan (mOut n ep ss ++ [0], false)).2 = false := by
  have hf := mEr_zero he
  have e : mOut n ep ss = manb n ep ss := by unfold mOut; rw [hf]; rfl
  rw [e, rMan_of n ep ss [0] h1 h2 hf]; rfl
theorem mOut_pos {n ep : Int} {ss : List ByteArray} (he : mEr ss = 0) : mOut n ep ss ≠ [] := by
  have hf := mEr_zero he
  have e : mOut n ep ss = manb n ep ss := by unfold mOut; rw [hf]; rfl
  intro h
  have := congrArg List.length (e.symm.trans h)
  simp [manb, be_length] at this
theorem sOut_byts (s : Sn) : Byts (sOut s) := by
  unfold sOut
  split
  · exact Byts.nil
  · split
    · exact snb_byts s
    · exact Byts.nil
theorem mOut_byts (n ep : Int) (ss : List ByteArray) : Byts (mOut n ep ss) := by
  unfold mOut
  split
  · rename_i h; exact manb_byts n ep ss h
  · exact Byts.nil
theorem mOut_short {n ep : Int} {ss : List ByteArray} (hl : ss.length ≤ 100) : (mOut n ep ss).length ≤ 100000 := by
  unfold mOut
  split
  · rename_i h
    unfold mfits at h
    rw [Bool.and_eq_true] at h
    have hs : ∀ s ∈ ss, s.size ≤ 32 := fun s hs => by have := List.all_eq_true.1 h.2 s hs; simpa using this
    have : (namesb ss).length ≤ 33 * ss.length := by
      clear h hl
      induction ss with
      | nil => simp [namesb]
      | cons s ss ih =>
        have h1 := ih (fun t ht => hs t (by simp [ht]))
        have h2 := hs s (by simp)
        have e : namesb (s :: ss) = nameb s ++ namesb ss := by simp [namesb]
        rw [e, List.length_append, List.length_cons]
        have : (nameb s).length = s.size + 1 := by simp [nameb, sb_length]
        omega
    simp only [manb, List.length_append, be_length]
    omega
  · simp


set_option maxHeartbeats 8000000 in
set_option maxRecDepth 100000 in
theorem CodecCuts_walk (s : Sn) (vm vp vc : Value) (n ep : Int) (vs : Value) (ss : List ByteArray) (at_ : Int) (w : World) (ho : s.ok) (h1 : U64 n) (h2 : U64 ep) (hsz : ∀ t ∈ ss, t.size ≤ 140737488355328) (hat : I64 at_) (hs : SnSeg w.heap.size w vm vp vc s) (hm : SSeg w.heap.size w vs ss) (hg : Glob w) :
    Calls Tryd.prog 3 #[.agg #[.int .i64 s.task, .int .i64 s.off, .int .i64 s.mark, vm, vp, vc], .agg #[.int .u64 n, .int .u64 ep, vs], .int .i64 at_] w fun e w' => e = .returned (.bool true) ∧ Below w.heap.size w w' := by
  have HS := hide hs
  have HSS := hide hm
  have HSZ := hide hsz
  have HOK := hide ho
  have HN1 := hide h1
  have HN2 := hide h2
  have HU : Hid (∀ o ∈ s.outs, 0 ≤ o.f.n) := fun o h => (ho.outs o h).2.2.2.2.1
  obtain ⟨am, cm, rfl, -, -⟩ := hs.m
  obtain ⟨ap, cp, rfl, -, -⟩ := hs.p
  obtain ⟨ac, cc, rfl, -, -⟩ := hs.c
  obtain ⟨an, cn, rfl, hlss, -⟩ := hm
  have q := LC.start w #[.int .i64 s.task, .int .i64 s.off, .int .i64 s.mark, .slice am s.marks.length cm, .slice ap s.panes.length cp, .slice ac s.outs.length cc] #[.int .u64 n, .int .u64 ep, .slice an ss.length cn] hg
  have hw0 := hg.1
  clear hg hs hsz ho h1 h2
  generalize hlt : s.light = lt
  have HLT := hide hlt
  generalize her : sEr s = er
  have HER := hide her
  generalize hmr : mEr ss = mr
  have HMR0 := hide hmr
  clear hlt her hmr
  go_enter Tryd.func3, Tryd.ntmps3
  go_wp2_with fail
  refine (known_any _ q.gl).mono ?_
  rintro e w1 ⟨rfl, hb⟩
  have q := q.step hb
  clear hb
  obtain ⟨c0, c1, c2, c3, c4, c5⟩ := q.bs.cells6
  go_wp2_with fail
  refine (light_any s _ _ _ w1 (HS.out.lc q)).mono ?_
  rw [HLT.out]
  rintro e w2 ⟨rfl, hb⟩
  have q := q.step hb
  clear hb c0 c1 c2 c3 c4 c5
  cases lt
  · have hfin := q.bel
    go_wp2
    go_ret
    exact ⟨rfl, hfin⟩
  obtain ⟨d0, d1, d2⟩ := q.bm.cells3
  obtain ⟨c0, c1, c2, c3, c4, c5⟩ := q.bs.cells6
  by_cases hss : 100 < ss.length
  · have hfin := q.bel
    go_wp2
    go_ret
    exact ⟨rfl, hfin⟩
  have hss : ss.length ≤ 100 := by omega
  have hcs := Snap_any s _ _ _ w2 HU.out (HS.out.lc q)
  rw [HER.out] at hcs
  go_wp2_with fail
  refine hcs.mono ?_
  rintro e w3 ⟨v3, rfl, ho3, hb⟩
  have q := q.step hb
  have HOS := hide ho3
  clear hb ho3 hcs c0 c1 c2 c3 c4 c5 d0 d1 d2
  by_cases he0 : er = 0
  rotate_left
  · have e0 : (er == 0) = false := by simpa using he0
    clear he0
    obtain ⟨c0, c1, c2⟩ := q.bm.cells3
    have hcm := Manifest_any n ep _ ss w3 HN1.out.1 HN2.out.1 (fun s hs => by have := HSZ.out s hs; omega) (HSS.out.lc q)
    rw [HMR0.out] at hcm
    go_wp2_with fail
    refine hcm.mono ?_
    rintro e wm ⟨v3, rfl, ho3, hb⟩
    have q := q.step hb
    have HOM := hide ho3
    clear hb ho3 hcm c0 c1 c2
    by_cases hm0 : mr = 0
    rotate_left
    · have e0 : (mr == 0) = false := by simpa using hm0
      have hfin := q.bel
      clear hm0
      go_wp2
      go_ret
      exact ⟨rfl, hfin⟩
    subst hm0
    have HMR := HMR0
    have hlo := mOut_short (n := n) (ep := ep) hss
    obtain ⟨g, cap, hv, g1, g2, g3, g4⟩ := HOM.out.shape (mOut_pos (n := n) (ep := ep) HMR.out)
    rw [hv] at HOM ⊢
    have hpos : 0 < (mOut n ep ss).length := List.length_pos_iff.2 (mOut_pos (n := n) (ep := ep) HMR.out)
    generalize hL : (mOut n ep ss).length = L at *
    have HL := hide hL
    clear hL hv
    go_wp2_with fail
    refine (Place_any at_ _ wm hat (by omega) (by omega)).mono ?_
    rintro e wp ⟨p, rfl, hp, rfl⟩
    have hpc : p ≤ cap := by omega
    have hsp := Seg.cut (k := p) (HOM.out.seg (by have := HL.out; omega)) (by have := HL.out; omega)
    have hcall := OpenManifest_any _ _ wp hsp ((mOut_byts n ep ss).first p)
    have hcc := man_cut HMR.out HN1.out HN2.out (k := p) (by have := HL.out; omega)
    rw [hcc] at hcall
    clear hcc hsp
    go_wp2_with fail
    refine hcall.mono ?_
    rintro e w5 ⟨um, rfl, ho5, hb⟩
    simp only [Bool.false_eq_true, if_false] at ho5 ⊢
    have q := q.step hb
    have HOM := hide (HOM.out.below hb (Nat.le_refl _))
    have hz5 := hb.size
    obtain ⟨bm, dm, hvm⟩ := ho5.shape
    rw [hvm]
    clear hcall hb ho5 hvm
    have q := q.step ((Below.refl w5.heap.size w5).alloc (Nat.le_refl _) (.cells #[.int .u64 (0 : Nat), .int .u64 (0 : Nat), .slice bm ([] : List ByteArray).length dm] 30))
    have HOM := hide (HOM.out.alloc (.cells #[.int .u64 (0 : Nat), .int .u64 (0 : Nat), .slice bm ([] : List ByteArray).length dm] 30))
    have hzz := q.bel.size
    have hcp := Copy_any _ (mOut n ep ss) _ (HOM.out.seg (by have := HL.out; omega)) (by have := HL.out; omega)
    go_wp2_with fail
    refine hcp.mono ?_
    rintro e w7 ⟨vk, rfl, hok7, hb⟩
    have q := q.step hb
    have hz7 := hb.size
    clear hcp hb HOM
    go_wp2_with (first | (at_builtin; refine app_own rfl _ _ rfl _ _ _ rfl (hok7.alloc _) ⟨w7.heap.size, 0, none⟩ 1 [0] rfl ?c0 ?c1 ?c2 ?_) | fail)
    case c0 => intro j h; have : j = 0 := by simpa using h
               subst this; simp [Addr.add]
    case c1 => have := HL.out; simp only [List.length_cons, List.length_nil]; omega
    case c2 => simp at hz7 ⊢; omega
    intro v8 w8 ho8 hk8
    have q := q.step ((Below.refl w7.heap.size w7).alloc (Nat.le_refl _) (.cells #[.int .u8 0] 5))
    have q := q.kept hk8 (by simpa using hzz) (by simp at hz7 ⊢; omega) hw0
    have hs8 := ho8.seg (by rw [List.length_append]; have := HL.out; simp; omega)
    have hcall := OpenManifest_any _ _ w8 hs8 ((mOut_byts n ep ss).app (Byts.cons (by omega) Byts.nil))
    clear hk8 ho8 hok7 hs8
    rw [man_more HMR.out HN1.out HN2.out] at hcall
    go_wp2_with fail
    refine hcall.mono ?_
    rintro e w9 ⟨xm, rfl, ho9, hb⟩
    simp only [Bool.false_eq_true, if_false] at ho9 ⊢
    have q := q.step hb
    obtain ⟨em, fm, hvm⟩ := ho9.shape
    rw [hvm]
    clear hcall hb ho9 hvm
    have q := q.step ((Below.refl w9.heap.size w9).alloc (Nat.le_refl _) (.cells #[.int .u64 (0 : Nat), .int .u64 (0 : Nat), .slice em ([] : List ByteArray).length fm] 30))
    have hfin := q.bel
    go_wp2
    go_ret
    exact ⟨rfl, hfin⟩
  subst he0
  have hlo := sOut_len s
  obtain ⟨g, cap, hv, g1, g2, g3, g4⟩ := HOS.out.shape (sOut_pos HER.out)
  rw [hv] at HOS ⊢
  have hpos : 0 < (sOut s).length := List.length_pos_iff.2 (sOut_pos HER.out)
  generalize hL : (sOut s).length = L at *
  have HL := hide hL
  clear hL hv
  go_wp2_with fail
  refine (Place_any at_ _ w3 hat (by omega) (by omega)).mono ?_
  rintro e wp ⟨p, rfl, hp, rfl⟩
  have hpc : p ≤ cap := by omega
  have hsp := Seg.cut (k := p) (HOS.out.seg (by have := HL.out; omega)) (by have := HL.out; omega)
  have hcall := OpenSnap_any _ _ wp hsp ((sOut_byts s).first p)
  have hcc := snap_cut HER.out HOK.out (k := p) (by have := HL.out; omega)
  rw [hcc.1, hcc.2] at hcall
  clear hcc hsp
  go_wp2_with fail
  refine hcall.mono ?_
  rintro e w5 ⟨um, up, uc, rfl, ho5, hb⟩
  have q := q.step hb
  have HOS := hide (HOS.out.below hb (Nat.le_refl _))
  have hz5 := hb.size
  obtain ⟨bm, dm, hvm⟩ := ho5.m.shape
  obtain ⟨bp, dp, hvp⟩ := ho5.p.shape
  obtain ⟨bc, dc, hvc⟩ := ho5.c.shape
  rw [hvm, hvp, hvc]
  clear hcall hb ho5 hvm hvp hvc
  have q := q.step ((Below.refl w5.heap.size w5).alloc (Nat.le_refl _) (.cells #[.int .i64 Sn.nil.task, .int .i64 Sn.nil.off, .int .i64 Sn.nil.mark, .slice bm Sn.nil.marks.length dm, .slice bp Sn.nil.panes.length dp, .slice bc Sn.nil.outs.length dc] 26))
  have HOS := hide (HOS.out.alloc (.cells #[.int .i64 Sn.nil.task, .int .i64 Sn.nil.off, .int .i64 Sn.nil.mark, .slice bm Sn.nil.marks.length dm, .slice bp Sn.nil.panes.length dp, .slice bc Sn.nil.outs.length dc] 26))
  have hzz := q.bel.size
  have hcp := Copy_any _ (sOut s) _ (HOS.out.seg (by have := HL.out; omega)) (by have := HL.out; omega)
  go_wp2_with fail
  refine hcp.mono ?_
  rintro e w7 ⟨vk, rfl, hok7, hb⟩
  have q := q.step hb
  have hz7 := hb.size
  clear hcp hb HOS
  go_wp2_with (first | (at_builtin; refine app_own rfl _ _ rfl _ _ _ rfl (hok7.alloc _) ⟨w7.heap.size, 0, none⟩ 1 [0] rfl ?c0 ?c1 ?c2 ?_) | fail)
  case c0 => intro j h; have : j = 0 := by simpa using h
             subst this; simp [Addr.add]
  case c1 => have := HL.out; simp only [List.length_cons, List.length_nil]; omega
  case c2 => simp at hz7 ⊢; omega
  intro v8 w8 ho8 hk8
  have q := q.step ((Below.refl w7.heap.size w7).alloc (Nat.le_refl _) (.cells #[.int .u8 0] 5))
  have q := q.kept hk8 (by simpa using hzz) (by simp at hz7 ⊢; omega) hw0
  have hs8 := ho8.seg (by rw [List.length_append]; have := HL.out; simp; omega)
  have hcall := OpenSnap_any _ _ w8 hs8 ((sOut_byts s).app (Byts.cons (by omega) Byts.nil))
  clear hk8 ho8 hok7 hs8
  have hcc := snap_more HER.out HOK.out
  rw [hcc.1, hcc.2] at hcall
  clear hcc
  go_wp2_with fail
  refine hcall.mono ?_
  rintro e w9 ⟨xm, xp, xc, rfl, ho9, hb⟩
  have q := q.step hb
  obtain ⟨em, fm, hvm⟩ := ho9.m.shape
  obtain ⟨ep', fp, hvp⟩ := ho9.p.shape
  obtain ⟨ec, fc, hvc⟩ := ho9.c.shape
  rw [hvm, hvp, hvc]
  clear hcall hb ho9 hvm hvp hvc
  have q := q.step ((Below.refl w9.heap.size w9).alloc (Nat.le_refl _) (.cells #[.int .i64 Sn.nil.task, .int .i64 Sn.nil.off, .int .i64 Sn.nil.mark, .slice em Sn.nil.marks.length fm, .slice ep' Sn.nil.panes.length fp, .slice ec Sn.nil.outs.length fc] 26))
  clear g1 g2 g3 g4 hpos hp hpc HL hlo hz5 hz7 hzz
  obtain ⟨c0, c1, c2⟩ := q.bm.cells3
  have hcm := Manifest_any n ep _ ss _ HN1.out.1 HN2.out.1 (fun s hs => by have := HSZ.out s hs; omega) (HSS.out.lc q)
  rw [HMR0.out] at hcm
  go_wp2_with fail
  refine hcm.mono ?_
  rintro e wm ⟨v3, rfl, ho3, hb⟩
  have q := q.step hb
  have HOM := hide ho3
  clear hb ho3 hcm c0 c1 c2
  by_cases hm0 : mr = 0
  rotate_left
  · have e0 : (mr == 0) = false := by simpa using hm0
    have hfin := q.bel
    clear hm0
    go_wp2
    go_ret
    exact ⟨rfl, hfin⟩
  subst hm0
  have HMR := HMR0
  have hlo := mOut_short (n := n) (ep := ep) hss
  obtain ⟨g, cap, hv, g1, g2, g3, g4⟩ := HOM.out.shape (mOut_pos (n := n) (ep := ep) HMR.out)
  rw [hv] at HOM ⊢
  have hpos : 0 < (mOut n ep ss).length := List.length_pos_iff.2 (mOut_pos (n := n) (ep := ep) HMR.out)
  generalize hL : (mOut n ep ss).length = L at *
  have HL := hide hL
  clear hL hv
  go_wp2_with fail
  refine (Place_any at_ _ wm hat (by omega) (by omega)).mono ?_
  rintro e wp ⟨p, rfl, hp, rfl⟩
  have hpc : p ≤ cap := by omega
  have hsp := Seg.cut (k := p) (HOM.out.seg (by have := HL.out; omega)) (by have := HL.out; omega)
  have hcall := OpenManifest_any _ _ wp hsp ((mOut_byts n ep ss).first p)
  have hcc := man_cut HMR.out HN1.out HN2.out (k := p) (by have := HL.out; omega)
  rw [hcc] at hcall
  clear hcc hsp
  go_wp2_with fail
  refine hcall.mono ?_
  rintro e w5 ⟨um, rfl, ho5, hb⟩
  simp only [Bool.false_eq_true, if_false] at ho5 ⊢
  have q := q.step hb
  have HOM := hide (HOM.out.below hb (Nat.le_refl _))
  have hz5 := hb.size
  obtain ⟨bm, dm, hvm⟩ := ho5.shape
  rw [hvm]
  clear hcall hb ho5 hvm
  have q := q.step ((Below.refl w5.heap.size w5).alloc (Nat.le_refl _) (.cells #[.int .u64 (0 : Nat), .int .u64 (0 : Nat), .slice bm ([] : List ByteArray).length dm] 30))
  have HOM := hide (HOM.out.alloc (.cells #[.int .u64 (0 : Nat), .int .u64 (0 : Nat), .slice bm ([] : List ByteArray).length dm] 30))
  have hzz := q.bel.size
  have hcp := Copy_any _ (mOut n ep ss) _ (HOM.out.seg (by have := HL.out; omega)) (by have := HL.out; omega)
  go_wp2_with fail
  refine hcp.mono ?_
  rintro e w7 ⟨vk, rfl, hok7, hb⟩
  have q := q.step hb
  have hz7 := hb.size
  clear hcp hb HOM
  go_wp2_with (first | (at_builtin; refine app_own rfl _ _ rfl _ _ _ rfl (hok7.alloc _) ⟨w7.heap.size, 0, none⟩ 1 [0] rfl ?c0 ?c1 ?c2 ?_) | fail)
  case c0 => intro j h; have : j = 0 := by simpa using h
             subst this; simp [Addr.add]
  case c1 => have := HL.out; simp only [List.length_cons, List.length_nil]; omega
  case c2 => simp at hz7 ⊢; omega
  intro v8 w8 ho8 hk8
  have q := q.step ((Below.refl w7.heap.size w7).alloc (Nat.le_refl _) (.cells #[.int .u8 0] 5))
  have q := q.kept hk8 (by simpa using hzz) (by simp at hz7 ⊢; omega) hw0
  have hs8 := ho8.seg (by rw [List.length_append]; have := HL.out; simp; omega)
  have hcall := OpenManifest_any _ _ w8 hs8 ((mOut_byts n ep ss).app (Byts.cons (by omega) Byts.nil))
  clear hk8 ho8 hok7 hs8
  rw [man_more HMR.out HN1.out HN2.out] at hcall
  go_wp2_with fail
  refine hcall.mono ?_
  rintro e w9 ⟨xm, rfl, ho9, hb⟩
  simp only [Bool.false_eq_true, if_false] at ho9 ⊢
  have q := q.step hb
  obtain ⟨em, fm, hvm⟩ := ho9.shape
  rw [hvm]
  clear hcall hb ho9 hvm
  have q := q.step ((Below.refl w9.heap.size w9).alloc (Nat.le_refl _) (.cells #[.int .u64 (0 : Nat), .int .u64 (0 : Nat), .slice em ([] : List ByteArray).length fm] 30))
  have hfin := q.bel
  go_wp2
  go_ret
  exact ⟨rfl, hfin⟩
end Go.Proofs.YtaajjejgjnlbgabDoor

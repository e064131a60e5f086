/-
  Texts in build order: OVDel, OVDelP, OVDelW, OVJoin, OVWith.
-/
import Derived.Test.YtpcbhcdpegbfjaaGreatM07
import Derived.Test.YtpcbhcdpegbfjaaGreatM14
import Derived.Test.YtpcbhcdpegbfjaaGreatM12
/-
 The closure of withSession; slices.IndexFunc and DeleteFunc over panes.
-/
namespace Go.Proofs.YtpcbhcdpegbfjaaGreat.V
set_option maxHeartbeats 16000000
set_option maxRecDepth 100000
open Go.RowKit
theorem clo_any {w : World} {K : Nat} {wh : Pn} (hK : BoxT 79 w K wh.cs.toArray) (x : Pn) : Calls Tryz.prog 174 #[x.val, .pointer (some ⟨K, 0, none⟩)] w fun e w' => e = .returned (.bool (ovb wh x)) ∧ Below w.heap.size w w' := by
 have hb := below_box w (.cells #[.int .i64 x.k, .int .i64 x.f, .int .i64 x.t, .int .i64 x.a] 79)
 have hK1 := BoxT.below (t := 79) hK hb
 obtain ⟨c0, c1, c2, c3⟩ := hK1.cells4
 have HB := hide hb
 have HO := hide (fun w => overlap_any w wh x)
 generalize ovb wh x = R at *
 obtain ⟨xk, xf, xt, xa⟩ := x
 obtain ⟨yk, yf, yt, ya⟩ := wh
 clear hK hK1 hb
 unfold Pn.val at *
 simp only at c0 c1 c2 c3
 go_enter Tryz.func174, Tryz.ntmps174
 go_wp2_with (go_at_call 171; refine (HO.out _).mono ?_; rintro e w1 ⟨rfl, b1⟩)
 go_ret
 exact ⟨rfl, HB.out.trans (b1.mono HB.out.size)⟩
theorem runClo (args : Array Value) (W : World) : (callFunc 174 args).run Tryz.prog W = .ok (.enter 174 args) W := by kernel_rfl
theorem index_any {w : World} {K : Nat} {wh : Pn} {v : Value} {l : List Pn} (hK : BoxT 79 w K wh.cs.toArray) (hl : LSeg 4 Pn.cs w.heap.size w v l) (hn : l.length ≤ 1000000) :
  Calls Tryz.prog 176 #[v, .func (.func 174) #[] #[.pointer (some ⟨K, 0, none⟩)]] w fun e w' => (∃ r : Int, e = .returned (.int .i64 r) ∧ ((r = -1 ∧ ∀ s ∈ l, ovb wh s = false) ∨ ∃ k : Nat, r = (k : Int) ∧ k < l.length ∧ (∀ i s, i < k → l[i]? = some s → ovb wh s = false) ∧ ∀ s, l[k]? = some s → ovb wh s = true)) ∧ Below w.heap.size w w' := by
 obtain ⟨ao, cap, rfl⟩ := hl.shapeOf
 have HL := hide hl
 have HK := hide hK
 clear hl hK
 go_enter Tryz.func176, Tryz.ntmps176
 go_wp2_with fail
 go_loopg [5, 8] (l.length + 1) (fun gh xv iv wr => ∃ t : Nat, iv = .int .i64 (t : Int) ∧ t ≤ l.length ∧ l.length + 1 ≤ gh + t ∧ Hid (∀ a s, a < t → l[a]? = some s → ovb wh s = false) ∧ Hid (Below w.heap.size w wr))
 case atStart => exact ⟨0, rfl, by omega, by omega, (show ∀ a s, _ from fun a s ha => by omega), Below.refl _ _⟩
 case round =>
  obtain ⟨t, rfl, ht, hg, HI, GB⟩ := hrel
  obtain ⟨go, rfl⟩ : ∃ go, gk = go + 1 := ⟨gk - 1, by omega⟩
  by_cases hlt : t < l.length
  ·obtain ⟨x, hx⟩ := get_of_lt hlt
   have bt : (t : Int) < (l.length : Int) := by omega
   obtain ⟨nb, no, rfl, nlt, e0, e1, e2, e3⟩ := (HL.out.below GB.out).pane hx
   have HC := hide (clo_any (BoxT.below (t := 79) HK.out GB.out) x)
   have HX := hide hx
   clear hx
   have hrun := runClo
   generalize hR : ovb wh x = R at HC
   have HR := hide hR
   clear hR
   obtain ⟨xk, xf, xt, xa⟩ := x
   unfold Pn.val at HC
   simp only at e0 e1 e2 e3
   cases R with
   | false =>
    go_wp2_with (refine HC.out.mono ?_; rintro e w1 ⟨rfl, b1⟩; have B1 := hide (GB.out.trans (b1.mono GB.out.size)); clear b1)
    go_roundg go
    case rel =>
     refine ⟨t + 1, by go_num, by omega, by omega, (show ∀ a s, _ from fun a s ha hs => ?_), B1⟩
     by_cases e : a = t
     ·subst e
      rw [HX.out] at hs
      cases hs
      exact HR.out
     ·exact HI.out a s (by omega) hs
    case measure => omega
   | true =>
    go_wp2_with (refine HC.out.mono ?_; rintro e w1 ⟨rfl, b1⟩; have B1 := hide (GB.out.trans (b1.mono GB.out.size)); clear b1)
    go_ret
    exact ⟨⟨t, rfl, .inr ⟨t, rfl, hlt, HI.out, fun s hs => by rw [HX.out] at hs; cases hs; exact HR.out⟩⟩, B1.out⟩
  ·have bt : ¬ (t : Int) < (l.length : Int) := by omega
   go_wp2_with fail
   go_ret
   refine ⟨⟨-1, rfl, .inl ⟨rfl, fun s hs => ?_⟩⟩, GB.out⟩
   obtain ⟨a, ha⟩ := List.getElem?_of_mem hs
   exact HI.out a s (by have := lt_of_get ha; omega) ha
end Go.Proofs.YtpcbhcdpegbfjaaGreat.V
/-
 slices.DeleteFunc over panes.
-/
namespace Go.Proofs.YtpcbhcdpegbfjaaGreat.V
open Go.RowKit
def keepO (wh : Pn) (l : List Pn) : List Pn := l.filter fun s => !ovb wh s
structure DI (w wr : World) (wh : Pn) (K g cap : Nat) (l : List Pn) (j : Nat) : Prop where
 hk : BoxT 79 wr K wh.cs.toArray
 gr : w.grownBy wr (some g)
 box : ∃ cur : Array Value, BoxT 79 wr g cur ∧ cur.size = cap * 4 ∧ (∀ (a : Nat) (x : Pn), (keepO wh (l.take j))[a]? = some x → ∀ (q : Nat) (u : Value), x.cs[q]? = some u → cur[a * 4 + q]? = some u) ∧ (∀ (a : Nat) (x : Pn), j ≤ a → l[a]? = some x → ∀ (q : Nat) (u : Value), x.cs[q]? = some u → cur[a * 4 + q]? = some u)
theorem keep_take {wh : Pn} {l : List Pn} {j : Nat} {s : Pn} (hs : l[j]? = some s) : keepO wh (l.take (j + 1)) = if ovb wh s then keepO wh (l.take j) else keepO wh (l.take j) ++ [s] := by
 have hlt := lt_of_get hs
 have e : l[j] = s := by rw [List.getElem?_eq_getElem hlt] at hs; exact Option.some.inj hs
 rw [List.take_succ_eq_append_getElem hlt, e]
 unfold keepO
 rw [List.filter_append]
 cases h : ovb wh s <;> simp [h]
theorem grown_below {w wr w' : World} {r : Option Nat} (h : w.grownBy wr r) (hb : Below wr.heap.size wr w') : w.grownBy w' r :=
 ⟨hb.os.trans h.os, hb.tape.trans h.tape, hb.output.trans h.output, Nat.le_trans h.size hb.size, fun i hi hne => (hb.block i (Nat.lt_of_lt_of_le hi h.size)).trans (h.block i hi hne)⟩
theorem DI.skip {w wr w' : World} {wh : Pn} {K g cap : Nat} {l : List Pn} {j : Nat} {s : Pn} (h : DI w wr wh K g cap l j) (hb : Below wr.heap.size wr w') (hs : l[j]? = some s) (hw : ovb wh s = true) : DI w w' wh K g cap l (j + 1) := by
 obtain ⟨cur, h1, h2, h3, h4⟩ := h.box
 refine ⟨BoxT.below (t := 79) h.hk hb, grown_below h.gr hb, cur, BoxT.below (t := 79) h1 hb, h2, fun a x ht => ?_, fun a x ha ht => h4 a x (by omega) ht⟩
 rw [keep_take hs, if_pos hw] at ht
 exact h3 a x ht
theorem DI.move {w wr w' : World} {wh : Pn} {K g cap : Nat} {l : List Pn} {j : Nat} {s : Pn} (h : DI w wr wh K g cap l j) (hb : Below wr.heap.size wr w') (hKg : K ≠ g) (hs : l[j]? = some s) (hw : ovb wh s = false) (hlt : (keepO wh (l.take j)).length < j) :
  DI w (w'.setCells g ((keepO wh (l.take j)).length * 4) s.cs) wh K g cap l (j + 1) := by
 obtain ⟨cur, h1, h2, h3, h4⟩ := h.box
 have h1' := BoxT.below (t := 79) h1 hb
 have hjl : j < cap := by
  have := lt_of_get (l := cur.toList) (by rw [Array.getElem?_toList]; exact h4 j s (Nat.le_refl _) hs 0 _ rfl)
  simp at this
  omega
 have hgr := grownBy_trans (grown_below h.gr hb) (grown_setCells g s.cs w' ((keepO wh (l.take j)).length * 4))
 have hk' : BoxT 79 (w'.setCells g ((keepO wh (l.take j)).length * 4) s.cs) K wh.cs.toArray := (BoxT.below (t := 79) h.hk hb).grown (grown_setCells g s.cs w' ((keepO wh (l.take j)).length * 4)) hKg
 refine ⟨hk', hgr, _, h1'.setCells s.cs, by rw [setL_size]; exact h2, fun a x ht q u hu => ?_, fun a x ha ht q u hu => ?_⟩
 ·have hq := lt_of_get hu
  rw [Pn.cs_len] at hq
  rw [keep_take hs, hw] at ht
  simp only [Bool.false_eq_true, if_false] at ht
  by_cases e : a < (keepO wh (l.take j)).length
  ·rw [List.getElem?_append_left e] at ht
   rw [setL_out _ _ _ _ (.inl (by omega))]
   exact h3 a x ht q u hu
  ·have ha : a = (keepO wh (l.take j)).length := by
    have := lt_of_get ht
    simp at this; omega
   subst ha
   simp at ht
   subst ht
   exact setL_in _ _ _ _ _ (by rw [Pn.cs_len, h2]; omega) hu
 ·have hq := lt_of_get hu
  rw [Pn.cs_len] at hq
  rw [setL_out _ _ _ _ (.inr (by rw [Pn.cs_len]; omega))]
  exact h4 a x (by omega) ht q u hu
theorem keep_all {wh : Pn} {l : List Pn} (h : ∀ s ∈ l, ovb wh s = false) : keepO wh l = l := by
 unfold keepO
 rw [List.filter_eq_self]
 intro s hs
 rw [h s hs]; rfl
theorem zero_cells (n : Nat) : (Builtin.zeroCells #[Value.int .i64 0, .int .i64 0, .int .i64 0, .int .i64 0] n).toList = List.replicate (n * 4) (.int .i64 0) := by
 simp only [Builtin.zeroCells]
 apply List.ext_getElem
 ·simp
 ·intro i h1 h2
  have : i % 4 = 0 ∨ i % 4 = 1 ∨ i % 4 = 2 ∨ i % 4 = 3 := by omega
  rcases this with h | h | h | h <;> simp [h]
theorem run_clear_pn (w : World) (ty b o n c : Nat) (hn : 0 < n) (hc : ∀ j, j < n * 4 → (w.cell? ⟨b, o + j, none⟩).isSome = true) (hf : ∀ j, j < n * 4 → w.frozen? ⟨b, o + j, none⟩ = false) :
  (Builtin.clear_ #[47] ty #[.slice (some ⟨b, o, none⟩) n c]).run Tryz.prog w = .ok (.tuple #[]) (w.setCells b o (List.replicate (n * 4) (.int .i64 0))) := by
 have hst := run_storeCells_cells (P := Tryz.prog) b o (List.replicate (n * 4) (.int .i64 0)) 0 w (by simpa using hc) (by simpa using hf) (by intro v hv'; rw [List.eq_of_mem_replicate hv']; rfl)
 simp only [Nat.add_zero] at hst
 have hz := zero_cells n
 obtain ⟨m, rfl⟩ : ∃ m, n = m + 1 := ⟨n - 1, by omega⟩
 simp [Builtin.clear_, run_underlying Tryz.underlying47, Value.cells, hz, hst]
end Go.Proofs.YtpcbhcdpegbfjaaGreat.V
/-
 slices.DeleteFunc over panes, walked.
-/
namespace Go.Proofs.YtpcbhcdpegbfjaaGreat.V
set_option maxHeartbeats 16000000
set_option maxRecDepth 100000
open Go.RowKit
theorem box_some4 {t : TypeId} {w : World} {g i cap : Nat} {cur : Array Value} (h : BoxT t w g cur) (hs : cur.size = cap * 4) (hi : i < cap) : ∃ u0 u1 u2 u3, w.cell? ⟨g, i * 4, none⟩ = some u0 ∧ w.cell? ⟨g, i * 4 + 1, none⟩ = some u1 ∧ w.cell? ⟨g, i * 4 + 2, none⟩ = some u2 ∧ w.cell? ⟨g, i * 4 + 3, none⟩ = some u3 := by
 refine ⟨cur[i * 4]'(by omega), cur[i * 4 + 1]'(by omega), cur[i * 4 + 2]'(by omega), cur[i * 4 + 3]'(by omega), ?_, ?_, ?_, ?_⟩ <;> (rw [h.cellAt]; exact Array.getElem?_eq_getElem _)
theorem index_nil (w : World) (fv : Value) : Calls Tryz.prog 176 #[.slice none 0 0, fv] w fun e w' => e = .returned (.int .i64 (-1)) ∧ w' = w := by
 go_enter Tryz.func176, Tryz.ntmps176
 go_wp2_with fail
 go_loopw [8] (fun iv wr => iv = .int .i64 0 ∧ wr = w) (fun _ _ => 0)
 case atStart => exact ⟨rfl, rfl⟩
 case round =>
  obtain ⟨rfl, rfl⟩ := hrel
  go_wp2
  go_ret
  exact ⟨rfl, rfl⟩
theorem delete_any {w : World} {K base : Nat} {wh : Pn} {v : Value} {l : List Pn} (hK : BoxT 79 w K wh.cs.toArray) (ho : OwnL 79 4 Pn.cs base w v l) (hKv : v.ownBlock ≠ some K) (hn : l.length ≤ 1000000) :
  Calls Tryz.prog 173 #[v, .func (.func 174) #[] #[.pointer (some ⟨K, 0, none⟩)]] w fun e w' => ∃ v', e = .returned v' ∧ OwnL 79 4 Pn.cs base w' v' (keepO wh l) ∧ w.grownBy w' v.ownBlock ∧ (∀ g, v'.ownBlock = some g → v.ownBlock = some g) := by
 have hix := index_any hK (ho.seg Pn.cs_len (by omega)) hn
 rcases ho.2 with ⟨rfl, h0⟩ | ⟨g, cap, cur, rfl, hbg, hgb, hcl, hcm, hcs, hct⟩
 ·have h0 : l = [] := List.length_eq_zero_iff.1 h0
  subst h0
  clear hK hn hix
  go_enter Tryz.func173, Tryz.ntmps173
  go_wp2_with fail
  go_at_call 176
  refine (index_nil w _).mono ?_
  rintro e w1 ⟨rfl, rfl⟩
  go_wp2
  go_ret
  exact ⟨_, rfl, ho, grownBy_refl _ _, fun g e => e⟩
 ·have hbx : BoxT 79 w g cur := hgb
  have hKg : K ≠ g := fun e => hKv (by rw [e]; rfl)
  have hcell : ∀ (a : Nat) (x : Pn), l[a]? = some x → ∀ (q : Nat) (u : Value), x.cs[q]? = some u → cur[a * 4 + q]? = some u := fun a x hx q u hu => by
   have h2 := flat_get Pn.cs_len l a q x u hx hu
   rw [← hct, List.getElem?_take] at h2
   split at h2
   ·simpa using h2
   ·cases h2
  have HO := hide ho
  have HK := hide hK
  have HB := hide hbx
  have HCE := hide hcell
  have HCS := hide hcs
  have HKG := hide hKg
  clear hgb hct hbx hcell ho hcs hK hKv hKg
  generalize hlm : l.length = m at *
  have HL := hide hlm
  clear hlm
  go_enter Tryz.func173, Tryz.ntmps173
  go_wp2_with fail
  go_at_call 176
  refine hix.mono ?_
  rintro e w1 ⟨⟨r, rfl, hr⟩, b1⟩
  clear hix
  rcases hr with ⟨rfl, hall⟩ | ⟨k, rfl, hkl, hbef, hat⟩
  ·have hwa := keep_all hall
   clear hall
   have HWA := hide hwa
   have HN : Hid (OwnL 79 4 Pn.cs base w1 (.slice (some ⟨g, 0, none⟩) m cap) l) := OwnL.below HO.out b1
   clear hwa
   go_wp2
   go_ret
   exact ⟨_, rfl, by rw [HWA.out]; exact HN.out, ⟨b1.os, b1.tape, b1.output, b1.size, fun i hi _ => b1.block i hi⟩, fun g e => e⟩
  ·obtain ⟨s0, hs0⟩ : ∃ s, l[k]? = some s := ⟨_, List.getElem?_eq_getElem (by rw [HL.out]; exact hkl)⟩
   have hw0 := hat s0 hs0
   have hwk : keepO wh (l.take k) = l.take k := keep_all (fun s hs => by
    obtain ⟨a, ha⟩ := List.getElem?_of_mem hs
    rw [List.getElem?_take] at ha
    split at ha
    ·rename_i hak; exact hbef a s hak ha
    ·cases ha)
   have hwk1 : keepO wh (l.take (k + 1)) = l.take k := by rw [keep_take hs0, if_pos hw0, hwk]
   have hlk1 : (keepO wh (l.take (k + 1))).length = k := by rw [hwk1, List.length_take, HL.out]; omega
   have H0 : Hid (DI w w1 wh K g cap l (k + 1)) := by
    refine ⟨BoxT.below (t := 79) HK.out b1, ⟨b1.os, b1.tape, b1.output, b1.size, fun i hi _ => b1.block i hi⟩, cur, BoxT.below (t := 79) HB.out b1, HCS.out, fun a s hs q u hu => ?_, fun a s _ hs => HCE.out a s hs⟩
    rw [hwk1, List.getElem?_take] at hs
    split at hs
    ·exact HCE.out a s hs q u hu
    ·cases hs
   have HL1 := hide hlk1
   clear hat hbef hwk hwk1 hlk1 hs0 hw0 b1 HB HCE HK
   have hkm : ((k : Int) == -1) = false := by simp
   have hrun := runClo
   go_wp2_with fail
   go_loopw [5, 6, 7] (fun iv jv _ wr => ∃ j i : Nat, k < j ∧ j ≤ m ∧ i < j ∧ iv = .int .i64 i ∧ jv = .int .i64 j ∧ Hid ((keepO wh (l.take j)).length = i) ∧ Hid (DI w wr wh K g cap l j)) (fun _ jv _ _ => m - (intOf jv).toNat)
   case atStart => exact ⟨k + 1, k, by omega, by omega, by omega, rfl, by go_num, HL1.out, H0.out⟩
   case round =>
    clear H0
    obtain ⟨j, i, hkj, hjm, hwl, rfl, rfl, HIL, HD⟩ := hrel
    obtain ⟨cur2, q1, q2, q3, q4⟩ := HD.out.box
    by_cases hlt : j < m
    ·obtain ⟨s, hs⟩ : ∃ s, l[j]? = some s := ⟨_, List.getElem?_eq_getElem (by rw [HL.out]; exact hlt)⟩
     have e0 : wr.cell? ⟨g, 0 + j * 4, none⟩ = some (.int .i64 s.k) := by rw [Nat.zero_add]; exact (q1.cellAt _).trans (q4 j s (Nat.le_refl _) hs 0 _ rfl)
     have e1 : wr.cell? ⟨g, j * 4 + 1, none⟩ = some (.int .i64 s.f) := (q1.cellAt _).trans (q4 j s (Nat.le_refl _) hs 1 _ rfl)
     have e2 : wr.cell? ⟨g, j * 4 + 2, none⟩ = some (.int .i64 s.t) := (q1.cellAt _).trans (q4 j s (Nat.le_refl _) hs 2 _ rfl)
     have e3 : wr.cell? ⟨g, j * 4 + 3, none⟩ = some (.int .i64 s.a) := (q1.cellAt _).trans (q4 j s (Nat.le_refl _) hs 3 _ rfl)
     rw [Nat.zero_add] at e0
     have hbx := below_box wr (.cells #[.int .i64 s.k, .int .i64 s.f, .int .i64 s.t, .int .i64 s.a] 79)
     have HKA := hide (clo_any (BoxT.below (t := 79) HD.out.hk hbx) s)
     have HBX := hide hbx
     have HQ1 := hide q1
     have HQ2 := hide q2
     have hcm2 : m ≤ cap := hcl
     have HS2 := hide hs
     have HWT := hide (keep_take (wh := wh) hs)
     have HNB := hide (BoxT.new 79 wr #[.int .i64 s.k, .int .i64 s.f, .int .i64 s.t, .int .i64 s.a])
     clear q1 q2 q3 q4 hs hbx
     generalize hR : ovb wh s = R at HKA HWT
     have HR := hide hR
     clear hR
     obtain ⟨sk, sf, st, sa⟩ := s
     unfold Pn.val at HKA
     simp only at e0 e1 e2 e3 HKA HBX HNB
     cases R with
     | false =>
      have HM := hide (fun w2 (b2 : Below wr.heap.size wr w2) => HD.out.move b2 HKG.out HS2.out HR.out (by rw [HIL.out]; exact hwl))
      rw [HIL.out] at HM
      have hlen : (keepO wh (l.take (j + 1))).length = i + 1 := by rw [HWT.out]; simp [HIL.out]
      have HLE := hide hlen
      clear hlen HD
      go_wp2_with (refine HKA.out.mono ?_; rintro e w2 ⟨rfl, b2⟩; have B2 := hide (HBX.out.trans (b2.mono HBX.out.size)); obtain ⟨n0, n1, n2, n3⟩ := (BoxT.below (t := 79) HNB.out b2).cells4; have qb := BoxT.below (t := 79) HQ1.out B2.out; have qf := fun j => qb.free j; obtain ⟨z0, z1, z2, z3, y0, y1, y2, y3⟩ := box_some4 qb HQ2.out (show i < cap by omega); have QB := hide qb; clear b2 qb)
      go_roundw
      case rel => exact ⟨j + 1, i + 1, by omega, by omega, by omega, by go_num, by go_num, HLE.out, HM.out w2 B2.out⟩
      case measure => simp [intOf]; omega
     | true =>
      have HM := hide (fun w2 (b2 : Below wr.heap.size wr w2) => HD.out.skip b2 HS2.out HR.out)
      have hlen : (keepO wh (l.take (j + 1))).length = i := by rw [HWT.out]; simp [HIL.out]
      have HLE := hide hlen
      clear hlen HD
      go_wp2_with (refine HKA.out.mono ?_; rintro e w2 ⟨rfl, b2⟩; have B2 := hide (HBX.out.trans (b2.mono HBX.out.size)); clear b2)
      go_roundw
      case rel => exact ⟨j + 1, i, by omega, by omega, by omega, rfl, by go_num, HLE.out, HM.out w2 B2.out⟩
      case measure => simp [intOf]; omega
    ·obtain rfl : j = m := by omega
     have HWS : Hid (keepO wh (l.take j) = keepO wh l) := by show _ = _; rw [List.take_of_length_le (by rw [HL.out]; exact Nat.le_refl _)]
     have hclr : ∀ ty, (Builtin.clear_ #[47] ty #[.slice (some ⟨g, i * 4, none⟩) (j - i) (cap - i)]).run Tryz.prog wr = .ok (.tuple #[]) (wr.setCells g (i * 4) (List.replicate ((j - i) * 4) (.int .i64 0))) :=
      fun ty => run_clear_pn wr ty g (i * 4) (j - i) (cap - i) (by omega) (fun a ha => by
       rw [q1.cellAt, Array.getElem?_eq_getElem (show i * 4 + a < cur2.size by omega)]; rfl) (fun a _ => q1.free _)
     have HBX := hide (q1.setCells (j := i * 4) (List.replicate ((j - i) * 4) (.int .i64 0)))
     have HGR := hide (grownBy_trans HD.out.gr (grown_setCells g (List.replicate ((j - i) * 4) (.int .i64 0)) wr (i * 4)))
     have HQ := hide (And.intro q2 q3)
     clear q1 q2 q3 q4
     go_wp2
     go_ret
     refine ⟨_, rfl, ?_, HGR.out, fun g e => e⟩
     have hil : (keepO wh l).length = i := by rw [← HWS.out]; exact HIL.out
     have hsz : (setL cur2 (i * 4) (List.replicate ((j - i) * 4) (.int .i64 0))).size = cap * 4 := by rw [setL_size]; exact HQ.out.1
     show World.ownsRow _ base 79 4 (.slice (some ⟨g, 0, none⟩) i cap) (keepO wh l).length ((keepO wh l).flatMap Pn.cs)
     refine ⟨by rw [flat_size Pn.cs_len], .inr ⟨g, cap, _, by rw [hil], hbg, HBX.out, by omega, hcm, by rw [hsz], ?_⟩⟩
     apply List.ext_getElem?
     intro a
     rw [List.getElem?_take]
     by_cases ha : a < i * 4
     ·rw [if_pos (by rw [hil]; exact ha), Array.getElem?_toList, setL_out _ _ _ _ (.inl ha)]
      have hlf : a < ((keepO wh l).flatMap Pn.cs).length := by rw [flat_size Pn.cs_len, hil]; exact ha
      obtain ⟨x, hx⟩ := get_of_lt (show a / 4 < (keepO wh l).length by rw [hil]; omega)
      have hm4 : a % 4 < x.cs.length := by rw [Pn.cs_len]; omega
      obtain ⟨u, hu⟩ := get_of_lt hm4
      have h1 := flat_get Pn.cs_len (keepO wh l) (a / 4) (a % 4) x u hx hu
      have h2 := HQ.out.2 (a / 4) x (by rw [HWS.out]; exact hx) (a % 4) u hu
      rw [show a / 4 * 4 + a % 4 = a by omega] at h1 h2
      rw [h1, h2]
     ·rw [if_neg (by rw [hil]; exact ha), List.getElem?_eq_none (by rw [flat_size Pn.cs_len, hil]; omega)]
end Go.Proofs.YtpcbhcdpegbfjaaGreat.V
/-
 Join.
-/
namespace Go.Proofs.YtpcbhcdpegbfjaaGreat.V
set_option maxHeartbeats 16000000
set_option maxRecDepth 100000
open Go.RowKit
def jst (J : Int → Int → Int) : List Pn → List Pn → List Pn
 | [], out => out
 | p :: r, out => jrow J p r out
theorem pJoin_jst (J : Int → Int → Int) (l : List Pn) : pJoin J l = srt (jst J (srt l) []) := by
 unfold pJoin jst
 split <;> rename_i e <;> rw [e]
 rfl
theorem jst_len (J : Int → Int → Int) (l out : List Pn) : (jst J l out).length ≤ l.length + out.length := by
 cases l with
 | nil => simp [jst]
 | cons p r => have := jrow_len J r p out; simp [jst]; omega
theorem jrow_ge (J : Int → Int → Int) (r : List Pn) : ∀ wh out, out.length + 1 ≤ (jrow J wh r out).length := by
 induction r with
 | nil => intro wh out; simp [jrow]
 | cons p r ih =>
  intro wh out
  unfold jrow
  split
  ·exact ih _ _
  ·split
   ·have := ih wh (out ++ [p]); simp at this; omega
   ·have := ih p (out ++ [wh]); simp at this; omega
theorem new4 (W : World) {n : Nat} (hn : n = W.heap.size) (x : Pn) (j : Nat) (u : Value) (hu : (Pn.cs x)[j]? = some u) : (W.alloc (.cells #[.int .i64 x.k, .int .i64 x.f, .int .i64 x.t, .int .i64 x.a] 79)).cell? ((⟨n, 0, none⟩ : Addr).add j) = some u := by
 have hb : BoxT 79 _ n _ := BoxT.new_at (t := 79) (w := W) (cs := #[.int .i64 x.k, .int .i64 x.f, .int .i64 x.t, .int .i64 x.a]) hn
 rw [add_plain2, hb.cellAt, Nat.zero_add]
 have hl := lt_of_get hu
 rw [Pn.cs_len] at hl
 match j, hu with
 | 0, hu | 1, hu | 2, hu | 3, hu => simp [Pn.cs] at hu; subst hu; rfl
theorem box4 {w : World} {K : Nat} {x : Pn} (h : BoxT 79 w K x.cs.toArray) : w.cell? ⟨K, 0, none⟩ = some (.int .i64 x.k) ∧ w.cell? ⟨K, 1, none⟩ = some (.int .i64 x.f) ∧ w.cell? ⟨K, 2, none⟩ = some (.int .i64 x.t) ∧ w.cell? ⟨K, 3, none⟩ = some (.int .i64 x.a) := h.cells4
theorem heap_four (w : World) (k : Nat) (u0 u1 u2 u3 : Value) (i : Nat) (h : i ≠ k) : ((((w.setCell ⟨k, 0, none⟩ u0).setCell ⟨k, 1, none⟩ u1).setCell ⟨k, 2, none⟩ u2).setCell ⟨k, 3, none⟩ u3).heap[i]? = w.heap[i]? := by
 rw [Below.heap_setCell _ ⟨k, 3, none⟩ u3 i h, Below.heap_setCell _ ⟨k, 2, none⟩ u2 i h, Below.heap_setCell _ ⟨k, 1, none⟩ u1 i h, Below.heap_setCell _ ⟨k, 0, none⟩ u0 i h]
structure JI (w1 wr : World) (K : Nat) (ov : Value) (out : List Pn) (wh : Pn) : Prop where
 own : OwnL 79 4 Pn.cs w1.heap.size wr ov out
 box : BoxT 79 wr K wh.cs.toArray
 off : ∀ g, ov.ownBlock = some g → g ≠ K
 bel : Below w1.heap.size w1 wr
 ge : w1.heap.size ≤ K
theorem JI.below {w1 wr w' : World} {K : Nat} {ov : Value} {out : List Pn} {wh : Pn} (h : JI w1 wr K ov out wh) (hb : Below wr.heap.size wr w') : JI w1 w' K ov out wh :=
 ⟨h.own.below hb, BoxT.below (t := 79) h.box hb, h.off, h.bel.trans (hb.mono h.bel.size), h.ge⟩
theorem JI.put {w1 wr : World} {K : Nat} {ov : Value} {out : List Pn} {wh : Pn} (h : JI w1 wr K ov out wh) (y : Pn) : JI w1 ((((wr.setCell ⟨K, 0, none⟩ (.int .i64 y.k)).setCell ⟨K, 1, none⟩ (.int .i64 y.f)).setCell ⟨K, 2, none⟩ (.int .i64 y.t)).setCell ⟨K, 3, none⟩ (.int .i64 y.a)) K ov out y :=
 ⟨h.own.back (fun g e => heap_four wr K _ _ _ _ g (h.off g e)), BoxT.four h.box _ _ _ _, h.off, below_four h.bel h.ge _ _ _ _, h.ge⟩
theorem JI.app {w1 wr w' : World} {K : Nat} {ov v' : Value} {out : List Pn} {wh x : Pn} (h : JI w1 wr K ov out wh) (o : OwnL 79 4 Pn.cs w1.heap.size w' v' (out ++ [x])) (g : wr.grownBy w' ov.ownBlock) (hv : ∀ g, v'.ownBlock = some g → ov.ownBlock = some g ∨ wr.heap.size ≤ g) : JI w1 w' K v' (out ++ [x]) wh := by
 have hK := h.box.lt
 refine ⟨o, ?_, fun k e => ?_, h.bel.grown g h.bel.size (fun k e => h.own.at k e), h.ge⟩
 ·have h1 := h.box
  unfold BoxT at *
  rw [g.block K hK (fun e => h.off K e.symm rfl)]; exact h1
 ·rcases hv k e with h1 | h1
  ·exact h.off k h1
  ·omega
theorem JI.start {w1 wr : World} {ov : Value} {out : List Pn} (o : OwnL 79 4 Pn.cs w1.heap.size wr ov out) (b : Below w1.heap.size w1 wr) (x : Pn) : JI w1 (wr.alloc (.cells x.cs.toArray 79)) wr.heap.size ov out x :=
 ⟨o.alloc _, BoxT.new 79 wr _, fun g e => Nat.ne_of_lt (o.lt g e), b.alloc b.size _, b.size⟩
theorem JI.box_ {w1 wr : World} {K : Nat} {ov : Value} {out : List Pn} {wh : Pn} (h : JI w1 wr K ov out wh) (o : Obj) : JI w1 (wr.alloc o) K ov out wh := h.below (below_box wr o)
theorem Join_any {w : World} {v : Value} {l : List Pn} (hl : LSeg 4 Pn.cs w.heap.size w v l) (hn : l.length ≤ 100000) (a : Int) : Calls Tryz.prog 170 #[.int .i64 a, v] w fun e w' => ∃ u, e = .returned u ∧ Row 79 4 Pn.cs w.heap.size w' u (pJoin (jn a) l) ∧ Below w.heap.size w w' := by
 have HS1 := hide (Sort_any hl (by omega))
 obtain ⟨ao, cap, rfl⟩ := hl.shapeOf
 rw [pJoin_jst]
 have hsl : (srt l).length ≤ 100000 := by rw [srt_len]; exact hn
 have HRL : Hid ((jst (jn a) (srt l) []).length ≤ 100000) := (show _ ≤ _ by have := jst_len (jn a) (srt l) []; simp at this; omega)
 generalize srt l = m at *
 have HR : Hid (jst (jn a) (m.drop 0) [] = jst (jn a) m []) := (show _ = _ by rw [List.drop_zero])
 generalize jst (jn a) m [] = R at *
 clear hl hn
 go_enter Tryz.func170, Tryz.ntmps170
 go_wp2_with (go_at_call 98; refine HS1.out.mono ?_; rintro e w1 ⟨u, rfl, o1, b1⟩; obtain ⟨ua, uc, rfl⟩ := (o1.seg Pn.cs_len (by omega)).shapeOf; have O1 := hide (o1.seg Pn.cs_len (by omega)); have B1 := hide b1; clear o1 b1)
 clear HS1
 have HW : Hid (w.heap.size ≤ w1.heap.size) := hide B1.out.size
 go_loopg [5, 6, 7, 8] (m.length + 1) (fun gh ov iv _ _ wr => ∃ (i : Nat) (out : List Pn), iv = .int .i64 (i : Int) ∧ i ≤ m.length ∧ m.length + 1 ≤ gh + i ∧ Hid (OwnL 79 4 Pn.cs w1.heap.size wr ov out) ∧ Hid (jst (jn a) (m.drop i) out = R) ∧ Hid (Below w1.heap.size w1 wr))
 case atStart => exact ⟨0, [], rfl, by omega, by omega, OwnL.nil _ _ _ _ _, HR, Below.refl _ _⟩
 case round =>
  obtain ⟨i, out, rfl, hi, hg, GO, GR, GB⟩ := hrel
  obtain ⟨go, rfl⟩ : ∃ go, gk = go + 1 := ⟨gk - 1, by omega⟩
  obtain ⟨oa, oc, ho⟩ := GO.out.shape
  by_cases hlt : i < m.length
  ·obtain ⟨x, hx⟩ := get_of_lt hlt
   have bt : (i : Int) < (m.length : Int) := by omega
   obtain ⟨nb, no, rfl, nlt, e0, e1, e2, e3⟩ := (O1.out.below GB.out).pane hx
   have HD : Hid (jrow (jn a) x (m.drop (i + 1)) out = R) := (show _ = _ by have := GR.out; rw [drop_at hx] at this; exact this)
   have HJ0 := hide (JI.start GO.out GB.out x)
   clear hx GR
   subst ho
   obtain ⟨xk, xf, xt, xa⟩ := x
   simp only at e0 e1 e2 e3
   obtain ⟨wo, rfl⟩ : ∃ wo, wo = wr := ⟨wr, rfl⟩
   go_wp2_with fail
   go_step3
   go_wp2_with fail
   go_step3
   go_wp2_with fail
   clear e0 e1 e2 e3
   generalize hKK : wo.heap.size = K at *
   go_loopg [5, 6, 8] (m.length + 1) (fun gh ov iv _ wr => ∃ (j : Nat) (out2 : List Pn) (wh : Pn), iv = .int .i64 (j : Int) ∧ i < j ∧ j ≤ m.length ∧ m.length + 1 ≤ gh + j ∧ Hid (JI w1 wr K ov out2 wh) ∧ Hid (jrow (jn a) wh (m.drop j) out2 = R))
   case atStart => exact ⟨i + 1, out, _, by go_num, by omega, by omega, by omega, HJ0, HD⟩
   case round =>
    clear HJ0 HD GO GB
    obtain ⟨j, out2, wh, rfl, hij, hj, hgj, HJ, HR2⟩ := hrel
    obtain ⟨gi, rfl⟩ : ∃ gi, gk = gi + 1 := ⟨gk - 1, by omega⟩
    obtain ⟨oa2, oc2, rfl⟩ := HJ.out.own.shape
    have HL2 : Hid (out2.length ≤ 1000000) := (show _ ≤ _ by have h1 := jrow_ge (jn a) (m.drop j) wh out2; rw [HR2.out] at h1; have := HRL.out; omega)
    have HWS : Hid (w1.heap.size ≤ wr.heap.size) := hide HJ.out.bel.size
    obtain ⟨c0, c1, c2, c3⟩ := box4 HJ.out.box
    by_cases hjl : j < m.length
    ·obtain ⟨y, hy⟩ := get_of_lt hjl
     have bj : (j : Int) < (m.length : Int) := by omega
     obtain ⟨nb2, no2, ee, _, e0, e1, e2, e3⟩ := (O1.out.below HJ.out.bel).pane hy
     cases ee
     have HJB := hide (HJ.out.box_ (.cells #[.int .i64 y.k, .int .i64 y.f, .int .i64 y.t, .int .i64 y.a] 79))
     have HYB : Hid (BoxT 79 (wr.alloc (.cells #[.int .i64 y.k, .int .i64 y.f, .int .i64 y.t, .int .i64 y.a] 79)) wr.heap.size y.cs.toArray) := BoxT.new 79 wr _
     obtain ⟨g0, g1, g2, g3⟩ := box4 HYB.out
     obtain ⟨f0, f1, f2, f3⟩ := box4 HJB.out.box
     have HO := hide (fun W => overlap_any W wh y)
     have HP := hide (fun W => joined_any W a wh y)
     have HE := hide (fun W => isEmpty_any W y.f y.t)
     have HR3 := HR2.out
     rw [drop_at hy, jrow] at HR3
     generalize hov : ovb wh y = ob at *
     clear hov
     obtain ⟨yk, yf, yt, ya⟩ := y
     obtain ⟨hk, hf, ht, ha⟩ := wh
     unfold Pn.val at HO HP
     simp only at e0 e1 e2 e3 c0 c1 c2 c3 f0 f1 f2 f3 g0 g1 g2 g3 HE HJB HYB
     cases ob with
     | true =>
      rw [if_pos rfl] at HR3
      have HR4 := hide HR3
      clear HR3 hy HE
      generalize hz : jp (jn a) ⟨hk, hf, ht, ha⟩ ⟨yk, yf, yt, ya⟩ = z at *
      clear hz
      obtain ⟨zk, zf, zt, za⟩ := z
      simp only at HP
      go_wp2_with (first
       | (go_at_call 171; refine (HO.out _).mono ?_; rintro e w2 ⟨rfl, b2⟩; have HJ2 := hide (HJB.out.below b2); obtain ⟨p0, p1, p2, p3⟩ := box4 HJ2.out.box; obtain ⟨q0, q1, q2, q3⟩ := box4 (BoxT.below (t := 79) HYB.out b2); simp only at p0 p1 p2 p3 q0 q1 q2 q3; clear b2)
       | (go_at_call 172; refine (HP.out _).mono ?_; rintro e w3 ⟨rfl, b3⟩; have HJ3 := hide (HJ2.out.below b3); obtain ⟨r0, r1, r2, r3⟩ := box4 HJ3.out.box; have rf := fun j => HJ3.out.box.free j; simp only at r0 r1 r2 r3; clear b3))
      go_roundg gi
      case rel => exact ⟨j + 1, out2, _, by go_num, by omega, by omega, by omega, HJ3.out.put ⟨zk, zf, zt, za⟩, HR4⟩
      case measure => omega
     | false =>
      rw [if_neg (by decide)] at HR3
      by_cases hem : yf ≥ yt
      ·have HR4 : Hid (jrow (jn a) ⟨hk, hf, ht, ha⟩ (m.drop (j + 1)) (out2 ++ [⟨yk, yf, yt, ya⟩]) = R) := (show _ = _ by rw [if_pos hem] at HR3; exact HR3)
       have hde : decide (yf ≥ yt) = true := decide_eq_true hem
       rw [hde] at HE
       clear HR3 hy HP hde hem
       go_wp2_with (first
        | (go_at_call 171; refine (HO.out _).mono ?_; rintro e w2 ⟨rfl, b2⟩; have HJ2 := hide (HJB.out.below b2); have HYB2 := hide (BoxT.below (t := 79) HYB.out b2); obtain ⟨q0, q1, q2, q3⟩ := box4 HYB2.out; simp only at q0 q1 q2 q3; clear b2)
        | (go_at_call 175; refine (HE.out _).mono ?_; rintro e w3 ⟨rfl, b3⟩; have HJ3 := hide (HJ2.out.below b3); obtain ⟨r0, r1, r2, r3⟩ := box4 (BoxT.below (t := 79) HYB2.out b3); simp only at r0 r1 r2 r3; clear b3; have HJ4 := hide (HJ3.out.box_ (.cells #[.int .i64 yk, .int .i64 yf, .int .i64 yt, .int .i64 ya] 79)); have HS4 := hide HJ4.out.bel.size)
        | (at_builtin; refine app_L Tryz.infoPn Tryz.underlying47 rfl (by decide) (by decide) Pn.cs_len Pn.cs_one rfl _ _ rfl w1.heap.size _ out2 rfl HJ4.out.own _ _ (⟨yk, yf, yt, ya⟩ : Pn) rfl (new4 w3 rfl ⟨yk, yf, yt, ya⟩) HL2.out HS4.out ?_; intro v5 w5 h5 g5 k5; have HJ5 := hide (HJ4.out.app h5 g5 k5); clear h5 g5 k5))
       go_roundg gi
       case rel => exact ⟨j + 1, _, _, by go_num, by omega, by omega, by omega, HJ5, HR4⟩
       case measure => omega
      ·have HR4 : Hid (jst (jn a) (m.drop j) (out2 ++ [⟨hk, hf, ht, ha⟩]) = R) := (show _ = _ by rw [if_neg hem] at HR3; rw [drop_at hy]; exact HR3)
       have hde : decide (yf ≥ yt) = false := decide_eq_false hem
       rw [hde] at HE
       clear HR3 hy HP hde hem
       go_wp2_with (first
        | (go_at_call 171; refine (HO.out _).mono ?_; rintro e w2 ⟨rfl, b2⟩; have HJ2 := hide (HJB.out.below b2); have HYB2 := hide (BoxT.below (t := 79) HYB.out b2); obtain ⟨q0, q1, q2, q3⟩ := box4 HYB2.out; simp only at q0 q1 q2 q3; clear b2)
        | (go_at_call 175; refine (HE.out _).mono ?_; rintro e w3 ⟨rfl, b3⟩; have HJ3 := hide (HJ2.out.below b3); obtain ⟨r0, r1, r2, r3⟩ := box4 HJ3.out.box; simp only at r0 r1 r2 r3; clear b3; have HJ4 := hide (HJ3.out.box_ (.cells #[.int .i64 hk, .int .i64 hf, .int .i64 ht, .int .i64 ha] 79)); have HS4 := hide HJ4.out.bel.size)
        | (at_builtin; refine app_L Tryz.infoPn Tryz.underlying47 rfl (by decide) (by decide) Pn.cs_len Pn.cs_one rfl _ _ rfl w1.heap.size _ out2 rfl HJ4.out.own _ _ (⟨hk, hf, ht, ha⟩ : Pn) rfl (new4 w3 rfl ⟨hk, hf, ht, ha⟩) HL2.out HS4.out ?_; intro v5 w5 h5 g5 k5; have HJ5 := hide (HJ4.out.app h5 g5 k5); clear h5 g5 k5))
       (try simp only [Exit.noGoto, Exit.inBlock, Exit.then])
       go_wp2_with fail
       go_roundg go
       case rel => exact ⟨j, _, by go_num, by omega, by omega, hide HJ5.out.own, HR4, hide HJ5.out.bel⟩
       case measure => omega
    ·have bj : ¬ (j : Int) < (m.length : Int) := by omega
     obtain ⟨hk, hf, ht, ha⟩ := wh
     simp only at c0 c1 c2 c3
     have HR4 : Hid (jst (jn a) (m.drop j) (out2 ++ [⟨hk, hf, ht, ha⟩]) = R) := (show _ = _ by have h1 := HR2.out; rw [drop_end hjl] at h1 ⊢; exact h1)
     have HJ4 := hide (HJ.out.box_ (.cells #[.int .i64 hk, .int .i64 hf, .int .i64 ht, .int .i64 ha] 79))
     have HS4 := hide HJ4.out.bel.size
     go_wp2_with (at_builtin; refine app_L Tryz.infoPn Tryz.underlying47 rfl (by decide) (by decide) Pn.cs_len Pn.cs_one rfl _ _ rfl w1.heap.size _ out2 rfl HJ4.out.own _ _ (⟨hk, hf, ht, ha⟩ : Pn) rfl (new4 wr rfl ⟨hk, hf, ht, ha⟩) HL2.out HS4.out ?_; intro v5 w5 h5 g5 k5; have HJ5 := hide (HJ4.out.app h5 g5 k5); clear h5 g5 k5)
     (try simp only [Exit.noGoto, Exit.inBlock, Exit.then])
     go_wp2_with fail
     go_roundg go
     case rel => exact ⟨j, _, by go_num, by omega, by omega, hide HJ5.out.own, HR4, hide HJ5.out.bel⟩
     case measure => omega
  ·have bt : ¬ (i : Int) < (m.length : Int) := by omega
   have HRE : Hid (out = R) := (show _ = _ by have h1 := GR.out; rw [drop_end hlt] at h1; exact h1)
   have HSO := hide (Sort_any (GO.out.seg Pn.cs_len (by rw [HRE.out]; have := HRL.out; omega)) (by rw [HRE.out]; have := HRL.out; omega))
   rw [HRE.out] at HSO
   subst ho
   go_wp2_with (go_at_call 98; refine HSO.out.mono ?_; rintro e w6 ⟨u, rfl, o6, b6⟩)
   go_ret
   have hb7 := B1.out.trans (GB.out.mono B1.out.size)
   exact ⟨_, rfl, o6.mono (hb7.size), hb7.trans (b6.mono hb7.size)⟩
end Go.Proofs.YtpcbhcdpegbfjaaGreat.V
/-
 withSpan, withSession.
-/
namespace Go.Proofs.YtpcbhcdpegbfjaaGreat.V
set_option maxHeartbeats 16000000
set_option maxRecDepth 100000
open Go.RowKit
theorem addSp_hit {J : Int → Int → Int} {fr : Pn} {v : Int} : ∀ {l : List Pn} {i : Nat} {p : Pn}, l[i]? = some p → (p.k = fr.k ∧ p.f = fr.f ∧ p.t = fr.t) → (∀ a x, a < i → l[a]? = some x → ¬ (x.k = fr.k ∧ x.f = fr.f ∧ x.t = fr.t)) → l.set i (withA p (J p.a v)) = addSp J fr v l
 | [], _, _, h, _, _ => by simp at h
 | q :: l, 0, p, h, hm, _ => by
  simp at h; subst h
  simp [addSp, hm]
 | q :: l, i + 1, p, h, hm, hb => by
  have h1 := hb 0 q (by omega) rfl
  rw [addSp, if_neg h1, List.set_cons_succ, addSp_hit (by simpa using h) hm fun a x ha hx => hb (a + 1) x (by omega) (by simpa using hx)]
theorem addSp_miss {J : Int → Int → Int} {fr : Pn} {v : Int} : ∀ {l : List Pn}, (∀ x ∈ l, ¬ (x.k = fr.k ∧ x.f = fr.f ∧ x.t = fr.t)) → (l ++ [fr]).set l.length (withA fr (J fr.a v)) = addSp J fr v l
 | [], _ => by simp [addSp]
 | q :: l, hb => by
  rw [addSp, if_neg (hb q (List.mem_cons_self ..)), List.length_cons, List.cons_append, List.set_cons_succ, addSp_miss fun x hx => hb x (List.mem_cons_of_mem _ hx)]
theorem grown_sub {w w' : World} {r r' : Option Nat} (h : w.grownBy w' r) (hr : ∀ g, r = some g → r' = some g) : w.grownBy w' r' :=
 ⟨h.os, h.tape, h.output, h.size, fun i hi hne => h.block i hi (fun e => hne ((hr i e.symm).symm))⟩
theorem grown_of_below {w w' : World} (h : Below w.heap.size w w') (r : Option Nat) : w.grownBy w' r := ⟨h.os, h.tape, h.output, h.size, fun i hi _ => h.block i hi⟩
def Spot (base : Nat) (w w' : World) (v : Value) (e : Ending) (res : Int → List Pn) (a : Int) (n : Nat) : Prop :=
 ∃ v' l' i p, e = .returned (.tuple #[v', .int .i64 ((i : Nat) : Int)]) ∧ OwnL 79 4 Pn.cs base w' v' l' ∧ w.grownBy w' v.ownBlock ∧ (∀ g, v'.ownBlock = some g → v.ownBlock = some g ∨ w.heap.size ≤ g) ∧ l'[i]? = some p ∧ (∀ v, l'.set i (withA p (jn a p.a v)) = res v) ∧ l'.length ≤ n + 1
theorem withSpan_any {w : World} {base : Nat} {v : Value} {l : List Pn} (ho : OwnL 79 4 Pn.cs base w v l) (hb : base ≤ w.heap.size) (hn : l.length ≤ 100000) (fr : Pn) (a : Int) :
  Calls Tryz.prog 169 #[v, fr.val] w fun e w' => Spot base w w' v e (fun v => addSp (jn a) fr v l) a l.length := by
 obtain ⟨ao, cap, rfl⟩ := ho.shape
 have HO := hide ho
 have HL := hide (ho.seg Pn.cs_len (by omega))
 have HF : Hid (BoxT 79 (w.alloc (.cells #[.int .i64 fr.k, .int .i64 fr.f, .int .i64 fr.t, .int .i64 fr.a] 79)) w.heap.size fr.cs.toArray) := BoxT.new 79 w _
 have HB1 := hide (below_box w (.cells #[.int .i64 fr.k, .int .i64 fr.f, .int .i64 fr.t, .int .i64 fr.a] 79))
 have HBB := hide hb
 clear ho hb
 obtain ⟨fk, ff, ft, fa⟩ := fr
 unfold Pn.val
 simp only at HF HB1
 go_enter Tryz.func169, Tryz.ntmps169
 go_wp2_with fail
 go_loopg [6, 7, 10] (l.length + 1) (fun gh _ _ iv wr => ∃ t : Nat, iv = .int .i64 (t : Int) ∧ t ≤ l.length ∧ l.length + 1 ≤ gh + t ∧ Hid (∀ a s, a < t → l[a]? = some s → ¬ (s.k = fk ∧ s.f = ff ∧ s.t = ft)) ∧ Hid (Below w.heap.size w wr) ∧ Hid (BoxT 79 wr w.heap.size (Pn.cs ⟨fk, ff, ft, fa⟩).toArray))
 case atStart => exact ⟨0, rfl, by omega, by omega, (show ∀ a s, _ from fun a s ha => by omega), HB1, HF⟩
 case round =>
  obtain ⟨t, rfl, ht, hg, HI, GB, GF⟩ := hrel
  obtain ⟨go, rfl⟩ : ∃ go, gk = go + 1 := ⟨gk - 1, by omega⟩
  obtain ⟨c0, c1, c2, c3⟩ := box4 GF.out
  simp only at c0 c1 c2 c3
  by_cases hlt : t < l.length
  ·obtain ⟨x, hx⟩ := get_of_lt hlt
   have bt : (t : Int) < (l.length : Int) := by omega
   obtain ⟨nb, no, rfl, nlt, e0, e1, e2, e3⟩ := (HL.out.below GB.out).pane hx
   have HX := hide hx
   have HBX := hide (below_box wr (.cells #[.int .i64 x.k, .int .i64 x.f, .int .i64 x.t, .int .i64 x.a] 79))
   have HNB : Hid (BoxT 79 (wr.alloc (.cells #[.int .i64 x.k, .int .i64 x.f, .int .i64 x.t, .int .i64 x.a] 79)) wr.heap.size x.cs.toArray) := BoxT.new 79 wr _
   have GF2 := hide (BoxT.below (t := 79) GF.out HBX.out)
   obtain ⟨f0, f1, f2, f3⟩ := box4 GF2.out
   obtain ⟨g0, g1, g2, g3⟩ := box4 HNB.out
   clear hx
   obtain ⟨xk, xf, xt, xa⟩ := x
   simp only at e0 e1 e2 e3 f0 f1 f2 f3 g0 g1 g2 g3 HBX
   by_cases h1 : xk = fk
   ·subst h1
    by_cases h2 : xf = ff
    ·by_cases h3 : xt = ft
     ·subst h2 h3
      go_wp2_with fail
      have hb2 := GB.out.trans (HBX.out.mono GB.out.size)
      exact bodyPost_ret (v := .tuple #[.slice (some ⟨nb, no, none⟩) l.length cap, .int .i64 (t : Int)]) (by simp [results, Tryz.results169, go_sem]; try rfl) rfl ⟨_, l, t, _, rfl, HO.out.below hb2, grown_of_below hb2 _, fun g e => .inl e, HX.out, fun v => addSp_hit HX.out ⟨rfl, rfl, rfl⟩ HI.out, by omega⟩
     ·subst h2
      go_wp2_with fail
      go_roundg go
      case rel =>
       refine ⟨t + 1, by go_num, by omega, by omega, (show ∀ a s, _ from fun a s ha hs => ?_), hide (GB.out.trans (HBX.out.mono GB.out.size)), GF2⟩
       by_cases e : a = t
       ·subst e
        rw [HX.out] at hs
        cases hs
        intro hh
        exact h3 hh.2.2
       ·exact HI.out a s (by omega) hs
      case measure => omega
    ·go_wp2_with fail
     go_roundg go
     case rel =>
      refine ⟨t + 1, by go_num, by omega, by omega, (show ∀ a s, _ from fun a s ha hs => ?_), hide (GB.out.trans (HBX.out.mono GB.out.size)), GF2⟩
      by_cases e : a = t
      ·subst e
       rw [HX.out] at hs
       cases hs
       intro hh
       exact h2 hh.2.1
      ·exact HI.out a s (by omega) hs
     case measure => omega
   ·go_wp2_with fail
    go_roundg go
    case rel =>
     refine ⟨t + 1, by go_num, by omega, by omega, (show ∀ a s, _ from fun a s ha hs => ?_), hide (GB.out.trans (HBX.out.mono GB.out.size)), GF2⟩
     by_cases e : a = t
     ·subst e
      rw [HX.out] at hs
      cases hs
      intro hh
      exact h1 hh.1
     ·exact HI.out a s (by omega) hs
    case measure => omega
  ·have bt : ¬ (t : Int) < (l.length : Int) := by omega
   have HALL : Hid (∀ x ∈ l, ¬ (x.k = fk ∧ x.f = ff ∧ x.t = ft)) := (show ∀ x ∈ l, _ by
    intro x hx
    obtain ⟨a, ha⟩ := List.getElem?_of_mem hx
    exact HI.out a x (by have := lt_of_get ha; omega) ha)
   have hbx := below_box wr (.cells #[.int .i64 fk, .int .i64 ff, .int .i64 ft, .int .i64 fa] 79)
   have hb2 := GB.out.trans (hbx.mono GB.out.size)
   have HB2 := hide hb2
   have HO2 := hide (HO.out.below hb2)
   have HS2 := hide (Nat.le_trans HBB.out hb2.size)
   have HN : Hid (l.length ≤ 1000000) := (show _ ≤ _ by omega)
   clear hbx hb2 hn
   go_wp2_with (at_builtin; refine app_L Tryz.infoPn Tryz.underlying47 rfl (by decide) (by decide) Pn.cs_len Pn.cs_one rfl _ _ rfl base _ l rfl HO2.out _ _ (⟨fk, ff, ft, fa⟩ : Pn) rfl (new4 wr rfl ⟨fk, ff, ft, fa⟩) HN.out HS2.out ?_; intro v5 w5 h5 g5 k5)
   exact bodyPost_ret (v := .tuple #[v5, .int .i64 (l.length : Int)]) (by simp [results, Tryz.results169, go_sem]; try rfl) rfl ⟨_, l ++ [⟨fk, ff, ft, fa⟩], l.length, ⟨fk, ff, ft, fa⟩, rfl, h5, grownBy_trans (grown_of_below HB2.out _) g5, fun g e => (k5 g e).imp id (fun h => Nat.le_trans HB2.out.size h), by simp, fun v => addSp_miss HALL.out, by simp⟩
end Go.Proofs.YtpcbhcdpegbfjaaGreat.V

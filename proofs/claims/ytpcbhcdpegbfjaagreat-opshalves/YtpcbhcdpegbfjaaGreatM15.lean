/-
  Texts in build order: OVDel, OVDelP, OVDelW.
-/
import Derived.Test.YtpcbhcdpegbfjaaGreatM07
import Derived.Test.YtpcbhcdpegbfjaaGreatM14
import Derived.Test.YtpcbhcdpegbfjaaGreatM13
/-
  The closure of withSession; slices.IndexFunc and DeleteFunc over panes.
-/
namespace Go.Proofs.YtpcbhcdpegbfjaaGreat.V
open Go.RowKit

set_option maxRecDepth 100000 in
theorem clo_any {w : World} {K : Nat} {wh : Pn} (hK : BoxT 79 w K wh.cs.toArray) (x : Pn) : Calls Tryz.prog 174 #[x.val, .pointer (some ⟨K, 0, none⟩)] w fun e w' => e = .returned (.bool (ovb wh x)) ∧ Below w.heap.size w w' := by
  have hb := below_box w (.cells #[.int .i64 x.k, .int .i64 x.f, .int .i64 x.t, .int .i64 x.a] 79)
  have hK1 := BoxT.below (t := 79) hK hb
  obtain ⟨c0, c1, c2, c3⟩ := hK1.cells4
  have HB := hide hb
  have HO := hide (fun w => overlap_any w wh x)
  generalize ovb wh x = R at *
  obtain ⟨xk, xf, xt, xa⟩ := x
  obtain ⟨yk, yf, yt, ya⟩ := wh
  clear hK hK1 hb
  unfold Pn.val at *
  simp only at c0 c1 c2 c3
  go_enter Tryz.func174, Tryz.ntmps174
  go_wp2_with (go_at_call 171; refine (HO.out _).mono ?_; rintro e w1 ⟨rfl, b1⟩)
  go_ret
  exact ⟨rfl, HB.out.trans (b1.mono HB.out.size)⟩
theorem runClo (args : Array Value) (W : World) : (callFunc 174 args).run Tryz.prog W = .ok (.enter 174 args) W := by kernel_rfl
set_option maxHeartbeats 1000000 in
set_option maxRecDepth 100000 in
theorem index_any {w : World} {K : Nat} {wh : Pn} {v : Value} {l : List Pn} (hK : BoxT 79 w K wh.cs.toArray) (hl : LSeg 4 Pn.cs w.heap.size w v l) (hn : l.length ≤ 1000000) :
    Calls Tryz.prog 176 #[v, .func (.func 174) #[] #[.pointer (some ⟨K, 0, none⟩)]] w fun e w' => (∃ r : Int, e = .returned (.int .i64 r) ∧ ((r = -1 ∧ ∀ s ∈ l, ovb wh s = false) ∨ ∃ k : Nat, r = (k : Int) ∧ k < l.length ∧ (∀ i s, i < k → l[i]? = some s → ovb wh s = false) ∧ ∀ s, l[k]? = some s → ovb wh s = true)) ∧ Below w.heap.size w w' := by
  obtain ⟨ao, cap, rfl⟩ := hl.shapeOf
  have HL := hide hl
  have HK := hide hK
  clear hl hK
  go_enter Tryz.func176, Tryz.ntmps176
  go_wp2_with fail
  go_loopg [5, 8] (l.length + 1) (fun gh xv iv wr => ∃ t : Nat, iv = .int .i64 (t : Int) ∧ t ≤ l.length ∧ l.length + 1 ≤ gh + t ∧ Hid (∀ a s, a < t → l[a]? = some s → ovb wh s = false) ∧ Hid (Below w.heap.size w wr))
  case atStart => exact ⟨0, rfl, by omega, by omega, (show ∀ a s, _ from fun a s ha => by omega), Below.refl _ _⟩
  case round =>
    obtain ⟨t, rfl, ht, hg, HI, GB⟩ := hrel
    obtain ⟨go, rfl⟩ : ∃ go, gk = go + 1 := ⟨gk - 1, by omega⟩
    by_cases hlt : t < l.length
    · obtain ⟨x, hx⟩ := get_of_lt hlt
      have bt : (t : Int) < (l.length : Int) := by omega
      obtain ⟨nb, no, rfl, nlt, e0, e1, e2, e3⟩ := (HL.out.below GB.out).pane hx
      have HC := hide (clo_any (BoxT.below (t := 79) HK.out GB.out) x)
      have HX := hide hx
      clear hx
      have hrun := runClo
      generalize hR : ovb wh x = R at HC
      have HR := hide hR
      clear hR
      obtain ⟨xk, xf, xt, xa⟩ := x
      unfold Pn.val at HC
      simp only at e0 e1 e2 e3
      cases R with
      | false =>
        go_wp2_with (refine HC.out.mono ?_; rintro e w1 ⟨rfl, b1⟩; have B1 := hide (GB.out.trans (b1.mono GB.out.size)); clear b1)
        go_roundg go
        case rel =>
          refine ⟨t + 1, by go_num, by omega, by omega, (show ∀ a s, _ from fun a s ha hs => ?_), B1⟩
          by_cases e : a = t
          · subst e
            rw [HX.out] at hs
            cases hs
            exact HR.out
          · exact HI.out a s (by omega) hs
        case measure => omega
      | true =>
        go_wp2_with (refine HC.out.mono ?_; rintro e w1 ⟨rfl, b1⟩; have B1 := hide (GB.out.trans (b1.mono GB.out.size)); clear b1)
        go_ret
        exact ⟨⟨t, rfl, .inr ⟨t, rfl, hlt, HI.out, fun s hs => by rw [HX.out] at hs; cases hs; exact HR.out⟩⟩, B1.out⟩
    · have bt : ¬ (t : Int) < (l.length : Int) := by omega
      go_wp2_with fail
      go_ret
      refine ⟨⟨-1, rfl, .inl ⟨rfl, fun s hs => ?_⟩⟩, GB.out⟩
      obtain ⟨a, ha⟩ := List.getElem?_of_mem hs
      exact HI.out a s (by have := lt_of_get ha; omega) ha
end Go.Proofs.YtpcbhcdpegbfjaaGreat.V
/-
  slices.DeleteFunc over panes.
-/
namespace Go.Proofs.YtpcbhcdpegbfjaaGreat.V
open Go.RowKit

def keepO (wh : Pn) (l : List Pn) : List Pn := l.filter fun s => !ovb wh s
structure DI (w wr : World) (wh : Pn) (K g cap : Nat) (l : List Pn) (j : Nat) : Prop where
  hk : BoxT 79 wr K wh.cs.toArray
  gr : w.grownBy wr (some g)
  box : ∃ cur : Array Value, BoxT 79 wr g cur ∧ cur.size = cap * 4 ∧ (∀ (a : Nat) (x : Pn), (keepO wh (l.take j))[a]? = some x → ∀ (q : Nat) (u : Value), x.cs[q]? = some u → cur[a * 4 + q]? = some u) ∧ (∀ (a : Nat) (x : Pn), j ≤ a → l[a]? = some x → ∀ (q : Nat) (u : Value), x.cs[q]? = some u → cur[a * 4 + q]? = some u)
theorem keep_take {wh : Pn} {l : List Pn} {j : Nat} {s : Pn} (hs : l[j]? = some s) : keepO wh (l.take (j + 1)) = if ovb wh s then keepO wh (l.take j) else keepO wh (l.take j) ++ [s] := by
  have hlt := lt_of_get hs
  have e : l[j] = s := by rw [List.getElem?_eq_getElem hlt] at hs; exact Option.some.inj hs
  rw [List.take_succ_eq_append_getElem hlt, e]
  unfold keepO
  rw [List.filter_append]
  cases h : ovb wh s <;> simp [h]
theorem grown_below {w wr w' : World} {r : Option Nat} (h : w.grownBy wr r) (hb : Below wr.heap.size wr w') : w.grownBy w' r :=
  ⟨hb.os.trans h.os, hb.tape.trans h.tape, hb.output.trans h.output, Nat.le_trans h.size hb.size, fun i hi hne => (hb.block i (Nat.lt_of_lt_of_le hi h.size)).trans (h.block i hi hne)⟩
theorem DI.skip {w wr w' : World} {wh : Pn} {K g cap : Nat} {l : List Pn} {j : Nat} {s : Pn} (h : DI w wr wh K g cap l j) (hb : Below wr.heap.size wr w') (hs : l[j]? = some s) (hw : ovb wh s = true) : DI w w' wh K g cap l (j + 1) := by
  obtain ⟨cur, h1, h2, h3, h4⟩ := h.box
  refine ⟨BoxT.below (t := 79) h.hk hb, grown_below h.gr hb, cur, BoxT.below (t := 79) h1 hb, h2, fun a x ht => ?_, fun a x ha ht => h4 a x (by omega) ht⟩
  rw [keep_take hs, if_pos hw] at ht
  exact h3 a x ht
theorem DI.move {w wr w' : World} {wh : Pn} {K g cap : Nat} {l : List Pn} {j : Nat} {s : Pn} (h : DI w wr wh K g cap l j) (hb : Below wr.heap.size wr w') (hKg : K ≠ g) (hs : l[j]? = some s) (hw : ovb wh s = false) (hlt : (keepO wh (l.take j)).length < j) :
    DI w (w'.setCells g ((keepO wh (l.take j)).length * 4) s.cs) wh K g cap l (j + 1) := by
  obtain ⟨cur, h1, h2, h3, h4⟩ := h.box
  have h1' := BoxT.below (t := 79) h1 hb
  have hjl : j < cap := by
    have := lt_of_get (l := cur.toList) (by rw [Array.getElem?_toList]; exact h4 j s (Nat.le_refl _) hs 0 _ rfl)
    simp at this
    omega
  have hgr := grownBy_trans (grown_below h.gr hb) (grown_setCells g s.cs w' ((keepO wh (l.take j)).length * 4))
  have hk' : BoxT 79 (w'.setCells g ((keepO wh (l.take j)).length * 4) s.cs) K wh.cs.toArray := (BoxT.below (t := 79) h.hk hb).grown (grown_setCells g s.cs w' ((keepO wh (l.take j)).length * 4)) hKg
  refine ⟨hk', hgr, _, h1'.setCells s.cs, by rw [setL_size]; exact h2, fun a x ht q u hu => ?_, fun a x ha ht q u hu => ?_⟩
  · have hq := lt_of_get hu
    rw [Pn.cs_len] at hq
    rw [keep_take hs, hw] at ht
    simp only [Bool.false_eq_true, if_false] at ht
    by_cases e : a < (keepO wh (l.take j)).length
    · rw [List.getElem?_append_left e] at ht
      rw [setL_out _ _ _ _ (.inl (by omega))]
      exact h3 a x ht q u hu
    · have ha : a = (keepO wh (l.take j)).length := by
        have := lt_of_get ht
        simp at this; omega
      subst ha
      simp at ht
      subst ht
      exact setL_in _ _ _ _ _ (by rw [Pn.cs_len, h2]; omega) hu
  · have hq := lt_of_get hu
    rw [Pn.cs_len] at hq
    rw [setL_out _ _ _ _ (.inr (by rw [Pn.cs_len]; omega))]
    exact h4 a x (by omega) ht q u hu
theorem keep_all {wh : Pn} {l : List Pn} (h : ∀ s ∈ l, ovb wh s = false) : keepO wh l = l := by
  unfold keepO
  rw [List.filter_eq_self]
  intro s hs
  rw [h s hs]; rfl
theorem zero_cells (n : Nat) : (Builtin.zeroCells #[Value.int .i64 0, .int .i64 0, .int .i64 0, .int .i64 0] n).toList = List.replicate (n * 4) (.int .i64 0) := by
  simp only [Builtin.zeroCells]
  apply List.ext_getElem
  · simp
  · intro i h1 h2
    have : i % 4 = 0 ∨ i % 4 = 1 ∨ i % 4 = 2 ∨ i % 4 = 3 := by omega
    rcases this with h | h | h | h <;> simp [h]
theorem run_clear_pn (w : World) (ty b o n c : Nat) (hn : 0 < n) (hc : ∀ j, j < n * 4 → (w.cell? ⟨b, o + j, none⟩).isSome = true) (hf : ∀ j, j < n * 4 → w.frozen? ⟨b, o + j, none⟩ = false) :
    (Builtin.clear_ #[47] ty #[.slice (some ⟨b, o, none⟩) n c]).run Tryz.prog w = .ok (.tuple #[]) (w.setCells b o (List.replicate (n * 4) (.int .i64 0))) := by
  have hst := run_storeCells_cells (P := Tryz.prog) b o (List.replicate (n * 4) (.int .i64 0)) 0 w (by simpa using hc) (by simpa using hf) (by intro v hv'; rw [List.eq_of_mem_replicate hv']; rfl)
  simp only [Nat.add_zero] at hst
  have hz := zero_cells n
  obtain ⟨m, rfl⟩ : ∃ m, n = m + 1 := ⟨n - 1, by omega⟩
  simp [Builtin.clear_, run_underlying Tryz.underlying47, Value.cells, hz, hst]
end Go.Proofs.YtpcbhcdpegbfjaaGreat.V
/-
  slices.DeleteFunc over panes, walked.
-/
namespace Go.Proofs.YtpcbhcdpegbfjaaGreat.V
open Go.RowKit

theorem box_some4 {t : TypeId} {w : World} {g i cap : Nat} {cur : Array Value} (h : BoxT t w g cur) (hs : cur.size = cap * 4) (hi : i < cap) : ∃ u0 u1 u2 u3, w.cell? ⟨g, i * 4, none⟩ = some u0 ∧ w.cell? ⟨g, i * 4 + 1, none⟩ = some u1 ∧ w.cell? ⟨g, i * 4 + 2, none⟩ = some u2 ∧ w.cell? ⟨g, i * 4 + 3, none⟩ = some u3 := by
  refine ⟨cur[i * 4]'(by omega), cur[i * 4 + 1]'(by omega), cur[i * 4 + 2]'(by omega), cur[i * 4 + 3]'(by omega), ?_, ?_, ?_, ?_⟩ <;> (rw [h.cellAt]; exact Array.getElem?_eq_getElem _)
set_option maxRecDepth 100000 in
theorem index_nil (w : World) (fv : Value) : Calls Tryz.prog 176 #[.slice none 0 0, fv] w fun e w' => e = .returned (.int .i64 (-1)) ∧ w' = w := by
  go_enter Tryz.func176, Tryz.ntmps176
  go_wp2_with fail
  go_loopw [8] (fun iv wr => iv = .int .i64 0 ∧ wr = w) (fun _ _ => 0)
  case atStart => exact ⟨rfl, rfl⟩
  case round =>
    obtain ⟨rfl, rfl⟩ := hrel
    go_wp2
    go_ret
    exact ⟨rfl, rfl⟩
set_option maxHeartbeats 4000000 in
set_option maxRecDepth 100000 in
theorem delete_any {w : World} {K base : Nat} {wh : Pn} {v : Value} {l : List Pn} (hK : BoxT 79 w K wh.cs.toArray) (ho : OwnL 79 4 Pn.cs base w v l) (hKv : v.ownBlock ≠ some K) (hn : l.length ≤ 1000000) :
    Calls Tryz.prog 173 #[v, .func (.func 174) #[] #[.pointer (some ⟨K, 0, none⟩)]] w fun e w' => ∃ v', e = .returned v' ∧ OwnL 79 4 Pn.cs base w' v' (keepO wh l) ∧ w.grownBy w' v.ownBlock ∧ (∀ g, v'.ownBlock = some g → v.ownBlock = some g) := by
  have hix := index_any hK (ho.seg Pn.cs_len (by omega)) hn
  rcases ho.2 with ⟨rfl, h0⟩ | ⟨g, cap, cur, rfl, hbg, hgb, hcl, hcm, hcs, hct⟩
  · have h0 : l = [] := List.length_eq_zero_iff.1 h0
    subst h0
    clear hK hn hix
    go_enter Tryz.func173, Tryz.ntmps173
    go_wp2_with fail
    go_at_call 176
    refine (index_nil w _).mono ?_
    rintro e w1 ⟨rfl, rfl⟩
    go_wp2
    go_ret
    exact ⟨_, rfl, ho, grownBy_refl _ _, fun g e => e⟩
  · have hbx : BoxT 79 w g cur := hgb
    have hKg : K ≠ g := fun e => hKv (by rw [e]; rfl)
    have hcell : ∀ (a : Nat) (x : Pn), l[a]? = some x → ∀ (q : Nat) (u : Value), x.cs[q]? = some u → cur[a * 4 + q]? = some u := fun a x hx q u hu => by
      have h2 := flat_get Pn.cs_len l a q x u hx hu
      rw [← hct, List.getElem?_take] at h2
      split at h2
      · simpa using h2
      · cases h2
    have HO := hide ho
    have HK := hide hK
    have HB := hide hbx
    have HCE := hide hcell
    have HCS := hide hcs
    have HKG := hide hKg
    clear hgb hct hbx hcell ho hcs hK hKv hKg
    generalize hlm : l.length = m at *
    have HL := hide hlm
    clear hlm
    go_enter Tryz.func173, Tryz.ntmps173
    go_wp2_with fail
    go_at_call 176
    refine hix.mono ?_
    rintro e w1 ⟨⟨r, rfl, hr⟩, b1⟩
    clear hix
    rcases hr with ⟨rfl, hall⟩ | ⟨k, rfl, hkl, hbef, hat⟩
    · have hwa := keep_all hall
      clear hall
      have HWA := hide hwa
      have HN : Hid (OwnL 79 4 Pn.cs base w1 (.slice (some ⟨g, 0, none⟩) m cap) l) := OwnL.below HO.out b1
      clear hwa
      go_wp2
      go_ret
      exact ⟨_, rfl, by rw [HWA.out]; exact HN.out, ⟨b1.os, b1.tape, b1.output, b1.size, fun i hi _ => b1.block i hi⟩, fun g e => e⟩
    · obtain ⟨s0, hs0⟩ : ∃ s, l[k]? = some s := ⟨_, List.getElem?_eq_getElem (by rw [HL.out]; exact hkl)⟩
      have hw0 := hat s0 hs0
      have hwk : keepO wh (l.take k) = l.take k := keep_all (fun s hs => by
        obtain ⟨a, ha⟩ := List.getElem?_of_mem hs
        rw [List.getElem?_take] at ha
        split at ha
        · rename_i hak; exact hbef a s hak ha
        · cases ha)
      have hwk1 : keepO wh (l.take (k + 1)) = l.take k := by rw [keep_take hs0, if_pos hw0, hwk]
      have hlk1 : (keepO wh (l.take (k + 1))).length = k := by rw [hwk1, List.length_take, HL.out]; omega
      have H0 : Hid (DI w w1 wh K g cap l (k + 1)) := by
        refine ⟨BoxT.below (t := 79) HK.out b1, ⟨b1.os, b1.tape, b1.output, b1.size, fun i hi _ => b1.block i hi⟩, cur, BoxT.below (t := 79) HB.out b1, HCS.out, fun a s hs q u hu => ?_, fun a s _ hs => HCE.out a s hs⟩
        rw [hwk1, List.getElem?_take] at hs
        split at hs
        · exact HCE.out a s hs q u hu
        · cases hs
      have HL1 := hide hlk1
      clear hat hbef hwk hwk1 hlk1 hs0 hw0 b1 HB HCE HK
      have hkm : ((k : Int) == -1) = false := by simp
      have hrun := runClo
      go_wp2_with fail
      go_loopw [5, 6, 7] (fun iv jv _ wr => ∃ j i : Nat, k < j ∧ j ≤ m ∧ i < j ∧ iv = .int .i64 i ∧ jv = .int .i64 j ∧ Hid ((keepO wh (l.take j)).length = i) ∧ Hid (DI w wr wh K g cap l j)) (fun _ jv _ _ => m - (intOf jv).toNat)
      case atStart => exact ⟨k + 1, k, by omega, by omega, by omega, rfl, by go_num, HL1.out, H0.out⟩
      case round =>
        clear H0
        obtain ⟨j, i, hkj, hjm, hwl, rfl, rfl, HIL, HD⟩ := hrel
        obtain ⟨cur2, q1, q2, q3, q4⟩ := HD.out.box
        by_cases hlt : j < m
        · obtain ⟨s, hs⟩ : ∃ s, l[j]? = some s := ⟨_, List.getElem?_eq_getElem (by rw [HL.out]; exact hlt)⟩
          have e0 : wr.cell? ⟨g, 0 + j * 4, none⟩ = some (.int .i64 s.k) := by rw [Nat.zero_add]; exact (q1.cellAt _).trans (q4 j s (Nat.le_refl _) hs 0 _ rfl)
          have e1 : wr.cell? ⟨g, j * 4 + 1, none⟩ = some (.int .i64 s.f) := (q1.cellAt _).trans (q4 j s (Nat.le_refl _) hs 1 _ rfl)
          have e2 : wr.cell? ⟨g, j * 4 + 2, none⟩ = some (.int .i64 s.t) := (q1.cellAt _).trans (q4 j s (Nat.le_refl _) hs 2 _ rfl)
          have e3 : wr.cell? ⟨g, j * 4 + 3, none⟩ = some (.int .i64 s.a) := (q1.cellAt _).trans (q4 j s (Nat.le_refl _) hs 3 _ rfl)
          rw [Nat.zero_add] at e0
          have hbx := below_box wr (.cells #[.int .i64 s.k, .int .i64 s.f, .int .i64 s.t, .int .i64 s.a] 79)
          have HKA := hide (clo_any (BoxT.below (t := 79) HD.out.hk hbx) s)
          have HBX := hide hbx
          have HQ1 := hide q1
          have HQ2 := hide q2
          have hcm2 : m ≤ cap := hcl
          have HS2 := hide hs
          have HWT := hide (keep_take (wh := wh) hs)
          have HNB := hide (BoxT.new 79 wr #[.int .i64 s.k, .int .i64 s.f, .int .i64 s.t, .int .i64 s.a])
          clear q1 q2 q3 q4 hs hbx
          generalize hR : ovb wh s = R at HKA HWT
          have HR := hide hR
          clear hR
          obtain ⟨sk, sf, st, sa⟩ := s
          unfold Pn.val at HKA
          simp only at e0 e1 e2 e3 HKA HBX HNB
          cases R with
          | false =>
            have HM := hide (fun w2 (b2 : Below wr.heap.size wr w2) => HD.out.move b2 HKG.out HS2.out HR.out (by rw [HIL.out]; exact hwl))
            rw [HIL.out] at HM
            have hlen : (keepO wh (l.take (j + 1))).length = i + 1 := by rw [HWT.out]; simp [HIL.out]
            have HLE := hide hlen
            clear hlen HD
            go_wp2_with (refine HKA.out.mono ?_; rintro e w2 ⟨rfl, b2⟩; have B2 := hide (HBX.out.trans (b2.mono HBX.out.size)); obtain ⟨n0, n1, n2, n3⟩ := (BoxT.below (t := 79) HNB.out b2).cells4; have qb := BoxT.below (t := 79) HQ1.out B2.out; have qf := fun j => qb.free j; obtain ⟨z0, z1, z2, z3, y0, y1, y2, y3⟩ := box_some4 qb HQ2.out (show i < cap by omega); have QB := hide qb; clear b2 qb)
            go_roundw
            case rel => exact ⟨j + 1, i + 1, by omega, by omega, by omega, by go_num, by go_num, HLE.out, HM.out w2 B2.out⟩
            case measure => simp [intOf]; omega
          | true =>
            have HM := hide (fun w2 (b2 : Below wr.heap.size wr w2) => HD.out.skip b2 HS2.out HR.out)
            have hlen : (keepO wh (l.take (j + 1))).length = i := by rw [HWT.out]; simp [HIL.out]
            have HLE := hide hlen
            clear hlen HD
            go_wp2_with (refine HKA.out.mono ?_; rintro e w2 ⟨rfl, b2⟩; have B2 := hide (HBX.out.trans (b2.mono HBX.out.size)); clear b2)
            go_roundw
            case rel => exact ⟨j + 1, i, by omega, by omega, by omega, rfl, by go_num, HLE.out, HM.out w2 B2.out⟩
            case measure => simp [intOf]; omega
        · obtain rfl : j = m := by omega
          have HWS : Hid (keepO wh (l.take j) = keepO wh l) := by show _ = _; rw [List.take_of_length_le (by rw [HL.out]; exact Nat.le_refl _)]
          have hclr : ∀ ty, (Builtin.clear_ #[47] ty #[.slice (some ⟨g, i * 4, none⟩) (j - i) (cap - i)]).run Tryz.prog wr = .ok (.tuple #[]) (wr.setCells g (i * 4) (List.replicate ((j - i) * 4) (.int .i64 0))) :=
            fun ty => run_clear_pn wr ty g (i * 4) (j - i) (cap - i) (by omega) (fun a ha => by
              rw [q1.cellAt, Array.getElem?_eq_getElem (show i * 4 + a < cur2.size by omega)]; rfl) (fun a _ => q1.free _)
          have HBX := hide (q1.setCells (j := i * 4) (List.replicate ((j - i) * 4) (.int .i64 0)))
          have HGR := hide (grownBy_trans HD.out.gr (grown_setCells g (List.replicate ((j - i) * 4) (.int .i64 0)) wr (i * 4)))
          have HQ := hide (And.intro q2 q3)
          clear q1 q2 q3 q4
          go_wp2
          go_ret
          refine ⟨_, rfl, ?_, HGR.out, fun g e => e⟩
          have hil : (keepO wh l).length = i := by rw [← HWS.out]; exact HIL.out
          have hsz : (setL cur2 (i * 4) (List.replicate ((j - i) * 4) (.int .i64 0))).size = cap * 4 := by rw [setL_size]; exact HQ.out.1
          show World.ownsRow _ base 79 4 (.slice (some ⟨g, 0, none⟩) i cap) (keepO wh l).length ((keepO wh l).flatMap Pn.cs)
          refine ⟨by rw [flat_size Pn.cs_len], .inr ⟨g, cap, _, by rw [hil], hbg, HBX.out, by omega, hcm, by rw [hsz], ?_⟩⟩
          apply List.ext_getElem?
          intro a
          rw [List.getElem?_take]
          by_cases ha : a < i * 4
          · rw [if_pos (by rw [hil]; exact ha), Array.getElem?_toList, setL_out _ _ _ _ (.inl ha)]
            have hlf : a < ((keepO wh l).flatMap Pn.cs).length := by rw [flat_size Pn.cs_len, hil]; exact ha
            obtain ⟨x, hx⟩ := get_of_lt (show a / 4 < (keepO wh l).length by rw [hil]; omega)
            have hm4 : a % 4 < x.cs.length := by rw [Pn.cs_len]; omega
            obtain ⟨u, hu⟩ := get_of_lt hm4
            have h1 := flat_get Pn.cs_len (keepO wh l) (a / 4) (a % 4) x u hx hu
            have h2 := HQ.out.2 (a / 4) x (by rw [HWS.out]; exact hx) (a % 4) u hu
            rw [show a / 4 * 4 + a % 4 = a by omega] at h1 h2
            rw [h1, h2]
          · rw [if_neg (by rw [hil]; exact ha), List.getElem?_eq_none (by rw [flat_size Pn.cs_len, hil]; omega)]
end Go.Proofs.YtpcbhcdpegbfjaaGreat.V

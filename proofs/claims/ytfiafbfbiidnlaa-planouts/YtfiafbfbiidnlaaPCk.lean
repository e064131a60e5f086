/-
  The document's Check of any job, and fit; what they take the program takes too.
-/
import Derived.Test.YtfiafbfbiidnlaaPRWts
import Derived.Test.YtfiafbfbiidnlaaERef
import Derived.Test.YtfiafbfbiidnlaaJLight
namespace Go.Proofs.Ytfiafbfbiidnlaa
open Go.RowKit

/-- What the document takes. -/
structure CkOk (ns : List Nd) : Prop where
  lt : LtOk ns
  wt : ∀ x ∈ wtsD ns, x ≤ 64
  sk : ∃ n ∈ ns, n.kind = 8
theorem wtsD_len (ns : List Nd) : (wtsD ns).length = ns.length := by
  unfold wtsD
  rw [wtsL_len, List.length_replicate]
set_option maxHeartbeats 4000000 in
set_option maxRecDepth 100000 in
theorem rcheckA {w : World} {v : Value} {ns : List Nd} (hj : JobIn w.heap.size w v ns) (hx : ExR w ns) :
    Calls Try.prog 28 #[.agg #[v]] w fun e w' => ∃ c : Int, e = .returned (.int .i64 c) ∧ (c = 0 → CkOk ns) ∧ Below w.heap.size w w' := by
  obtain ⟨na, ncp, rfl⟩ := hj.shape
  have hlen := hj.seg.len
  have hb := below_box w (.cells #[.slice na ns.length ncp] 24)
  have HB := hide hb
  have HX := hide (BoxT.new 24 w #[.slice na ns.length ncp])
  have HLI := hide (rlightA ((hj.below hb).mono hb.size) (hx.below hb))
  have HJ := hide hj
  have HEX := hide hx
  clear hj hb hx
  go_enter Try.func28, Try.ntmps28
  go_wp2_with fail
  refine HLI.out.mono ?_
  rintro e w1 ⟨c, rfl, hc, b1⟩
  have B1 := hide (HB.out.trans (b1.mono HB.out.size))
  have X1 := hide (HX.out.below b1)
  have cx1 : w1.cell? ⟨w.heap.size, 0, none⟩ = some (.slice na ns.length ncp) := by rw [X1.out.cellAt]; rfl
  by_cases hc0 : c = 0
  rotate_left
  · have hcn : (c != 0) = true := by simp [hc0]
    have HC0 := hide hc0
    clear hc hc0
    as_aux_lemma =>
    go_wp2_with fail
    go_ret
    exact ⟨c, rfl, (fun h => absurd h HC0.out), B1.out⟩
  subst hc0
  clear hc b1
  have HWT := hide (rwtsA ((HJ.out.below B1.out).mono B1.out.size) (HEX.out.below B1.out))
  go_wp2_with fail
  refine HWT.out.mono ?_
  rintro e w2 ⟨u, rfl, hu, b2⟩
  have B2 := hide (B1.out.trans (b2.mono B1.out.size))
  have X2 := hide (X1.out.below b2)
  clear b2 cx1
  rcases hu with rfl | ⟨hlt, G, rfl, hG⟩
  · as_aux_lemma =>
    go_wp2_with fail
    go_loopg [5, 6] 2 (fun g sv iv wr => iv = .int .i64 0 ∧ sv = .int .i64 0 ∧ 1 ≤ g ∧ w2 = wr)
    case atStart => exact ⟨rfl, rfl, by omega, rfl⟩
    case round =>
      obtain ⟨rfl, rfl, hg, rfl⟩ := hrel
      go_wp2_with fail
      go_ret
      exact ⟨80, rfl, (fun h => by cases h), B2.out⟩
  have hwl := wtsD_len ns
  obtain ⟨wl, hwd⟩ : ∃ l, wtsD ns = l := ⟨_, rfl⟩
  rw [hwd] at hG hwl
  have HOK : Hid ((∀ x ∈ wl, x ≤ 64) → (∃ n ∈ ns, n.kind = 8) → CkOk ns) := fun h1 h2 => ⟨hlt, by rw [hwd]; exact h1, h2⟩
  have HG := hide hG
  have hl12 := hlt.l2
  have HWL := hide hwl
  clear hG hwd hlt hwl
  as_aux_lemma =>
  go_wp2_with fail
  go_loopg [5, 6] (ns.length + 1) (fun g sv iv wr => ∃ t s : Nat, iv = .int .i64 (t : Int) ∧ sv = .int .i64 (s : Int) ∧ t ≤ ns.length ∧ s ≤ t ∧ ns.length + 1 ≤ g + t ∧ Hid (∀ j < t, ∀ x, wl[j]? = some x → x ≤ 64) ∧ Hid (0 < s → ∃ n ∈ ns, n.kind = 8) ∧ w2 = wr)
  case atStart => exact ⟨0, 0, rfl, rfl, by omega, by omega, by omega, (fun j hj => by omega), (fun h => by omega), rfl⟩
  case round =>
    obtain ⟨t, s, rfl, rfl, ht, hst, hg, GW, GS, rfl⟩ := hrel
    obtain ⟨go, rfl⟩ : ∃ go, gk = go + 1 := ⟨gk - 1, by omega⟩
    by_cases hlt : t < ns.length
    · obtain ⟨n, hn⟩ := get_of_lt hlt
      have bt : (t : Int) < (ns.length : Int) := by omega
      obtain ⟨x, hx⟩ := get_of_lt (l := wl) (i := t) (by rw [HWL.out]; exact hlt)
      have cw : w2.cell? ⟨G, t, none⟩ = some (.int .i64 (x : Int)) := by rw [HG.out.cellAt]; simp [hx]
      have cx : w2.cell? ⟨w.heap.size, 0, none⟩ = some (.slice na ns.length ncp) := by rw [X2.out.cellAt]; rfl
      obtain ⟨nb, no, hna, nlt, d0, -⟩ := (HJ.out.below B2.out).at_ hn
      subst hna
      have HN := hide (List.mem_of_getElem? hn)
      have HXX := hide hx
      clear hn hx
      by_cases h64 : (64 : Int) < (x : Int)
      · clear GW GS
        go_wp2_with fail
        go_ret
        exact ⟨88, rfl, (fun h => by cases h), B2.out⟩
      · have GW2 : Hid (∀ j < t + 1, ∀ x, wl[j]? = some x → x ≤ 64) := fun j hj y hy => by
          rcases Nat.lt_succ_iff_lt_or_eq.1 hj with h1 | h1
          · exact GW.out j h1 y hy
          · subst h1
            rw [HXX.out] at hy
            cases hy
            omega
        by_cases h8 : n.kind = 8
        · have g8 : (n.kind == 8) = true := by simp [h8]
          have GS2 : Hid (0 < s + 1 → ∃ n ∈ ns, n.kind = 8) := fun _ => ⟨n, HN.out, h8⟩
          clear h8 GW GS
          go_wp2_with fail
          go_roundg go
          case rel => exact ⟨t + 1, s + 1, by go_num, by go_num, by omega, by omega, by omega, GW2, GS2, rfl⟩
          case measure => omega
        · have g8 : (n.kind == 8) = false := by simp [h8]
          clear h8 GW
          go_wp2_with fail
          go_roundg go
          case rel => exact ⟨t + 1, s, by go_num, rfl, by omega, by omega, by omega, GW2, GS, rfl⟩
          case measure => omega
    · have bt : ¬ (t : Int) < (ns.length : Int) := by omega
      have hall : ∀ x ∈ wl, x ≤ 64 := fun x hx => by
        obtain ⟨j, hj⟩ := List.getElem?_of_mem hx
        exact GW.out j (by have := lt_of_get hj; rw [HWL.out] at this; omega) x hj
      have HA := hide hall
      clear hall GW
      by_cases hs0 : s = 0
      · have gs : ((s : Int) == 0) = true := by simp [hs0]
        clear hs0
        go_wp2_with fail
        go_ret
        exact ⟨80, rfl, (fun h => by cases h), B2.out⟩
      · have gs : ((s : Int) == 0) = false := by simp [hs0]
        have HF := hide (HOK.out HA.out (GS.out (by omega)))
        clear hs0
        go_wp2_with fail
        go_ret
        exact ⟨0, rfl, (fun _ => HF.out), B2.out⟩

/-- What fit answers. -/
def FtP (ns : List Nd) (u : Value) : Prop := u = .bool false ∨ (u = .bool true ∧ ns.length ≤ 40 ∧ (∀ n ∈ ns, lgOk n) ∧ CkOk ns)
theorem exR_of {w : World} {ns : List Nd} (h : ∀ n ∈ ns, lgOk n) (he : ExIn w ns) : ExR w ns := fun n hn w' hb => by
  have hl := h n hn
  have hk := (lgt_ok n.e 100 40 (by decide)).2.2 hl.2
  have h2 := hl.2
  exact rCheck_any n.e ((he n hn).below hb) (by omega) (by omega)
set_option maxHeartbeats 4000000 in
set_option maxRecDepth 100000 in
theorem fit_any {w : World} {v : Value} {ns : List Nd} (hj : JobIn w.heap.size w v ns) (hE : ExIn w ns) :
    Calls Try.prog 9 #[.agg #[v]] w fun e w' => ∃ u, e = .returned u ∧ FtP ns u ∧ Below w.heap.size w w' := by
  obtain ⟨na, ncp, rfl⟩ := hj.shape
  have hlen := hj.seg.len
  have hb : Below w.heap.size w (w.alloc (.cells #[.slice na ns.length ncp] 24)) := (Below.refl _ _).alloc (Nat.le_refl _) _
  have HB := hide hb
  have HX := hide (BoxT.new 24 w #[.slice na ns.length ncp])
  have HJ := hide hj
  have HE := hide hE
  clear hb hj hE
  by_cases h40 : ns.length ≤ 40
  · have c40 : (ns.length : Int) ≤ 40 := by omega
    go_enter Try.func9, Try.ntmps9
    go_wp2_with fail
    go_loopg [3] (ns.length + 1) (fun g iv wr => ∃ t : Nat, iv = .int .i64 (t : Int) ∧ t ≤ ns.length ∧ ns.length + 1 ≤ g + t ∧ Hid (∀ n ∈ ns.take t, lgOk n) ∧ Hid (Below w.heap.size w wr) ∧ Hid (BoxT 24 wr w.heap.size #[.slice na ns.length ncp]))
    case atStart => exact ⟨0, rfl, by omega, by omega, (fun n hn => by simp at hn), HB, HX⟩
    case round =>
      obtain ⟨t, rfl, ht, hg, GA, GB, GX⟩ := hrel
      obtain ⟨go, rfl⟩ : ∃ go, gk = go + 1 := ⟨gk - 1, by omega⟩
      have cx : wr.cell? ⟨w.heap.size, 0, none⟩ = some (.slice na ns.length ncp) := by rw [GX.out.cellAt]; rfl
      by_cases hlt : t < ns.length
      · obtain ⟨n, hn⟩ := get_of_lt hlt
        have bt : (t : Int) < (ns.length : Int) := by omega
        obtain ⟨nb, no, rfl, nlt, d0, d1, d2, d3, d4, d5, d6, d7, d8, d9⟩ := (HJ.out.below GB.out).at_ hn
        have hnm := List.mem_of_getElem? hn
        have hil := (HJ.out.ins n hnm).len
        have HLT := hide (Light_any n.e wr 100 40 (((HE.out n hnm).below GB.out)) (by omega) (by omega) (by omega) (by omega))
        have hok := lgt_ok n.e 100 40 (by omega)
        have HTK : Hid (lgOk n → ∀ m ∈ ns.take (t + 1), lgOk m) := fun h m hm => by
          have hl := lt_of_get hn
          rw [List.take_succ_eq_append_getElem hl] at hm
          rw [List.getElem?_eq_getElem hl] at hn
          cases hn
          rcases List.mem_append.1 hm with hm | hm
          · exact GA.out m hm
          · rcases List.mem_singleton.1 hm with rfl
            exact h
        have hlg : lgOk n = (n.ins.length ≤ 40 ∧ lgt n.e 100 40 ≤ 100) := rfl
        rw [hlg] at HTK
        clear hlg hn hnm
        obtain ⟨kd, ia, icp, ins, par, ⟨eo, en, ea, ec, el⟩, ag, wk, ws, wl⟩ := n
        unfold Ex.val at HLT
        simp only at d0 d1 d2 d3 d4 d5 d6 d7 d8 d9 HLT hok HTK hil
        generalize lgt ⟨eo, en, ea, ec, el⟩ 100 40 = q at *
        obtain ⟨hq1, hq2, -⟩ := hok
        by_cases hi40 : ins.length ≤ 40
        · have ci : (ins.length : Int) ≤ 40 := by omega
          by_cases hq : q ≤ 100
          · have HT2 := hide (HTK.out ⟨hi40, hq⟩)
            clear HTK
            go_wp2_with (go_at_call 27; refine HLT.out.mono ?_; rintro e w1 ⟨rfl, b1⟩)
            go_roundg go
            case rel => exact ⟨t + 1, by go_num, by omega, by omega, HT2, GB.out.trans (b1.mono GB.out.size), GX.out.below b1⟩
            case measure => omega
          · clear HTK
            go_wp2_with (go_at_call 27; refine HLT.out.mono ?_; rintro e w1 ⟨rfl, b1⟩)
            go_ret
            exact ⟨_, rfl, .inl rfl, GB.out.trans (b1.mono GB.out.size)⟩
        · have ci : ¬ (ins.length : Int) ≤ 40 := by omega
          clear HTK
          go_wp2_with fail
          go_ret
          exact ⟨_, rfl, .inl rfl, GB.out⟩
      · have bt : ¬ (t : Int) < (ns.length : Int) := by omega
        have HT : Hid (∀ n ∈ ns, lgOk n) := by
          have := GA.out
          rw [List.take_of_length_le (by omega)] at this
          exact this
        have HCK := hide (rcheckA ((HJ.out.below GB.out).mono GB.out.size) (exR_of HT.out (HE.out.below GB.out)))
        go_wp2_with (go_at_call 28; refine HCK.out.mono ?_; rintro e w2 ⟨c, rfl, hc, b2⟩; have HCC := hide hc; clear hc)
        go_ret
        by_cases hc0 : c = 0
        · exact ⟨_, rfl, .inr ⟨by subst hc0; rfl, h40, HT.out, HCC.out hc0⟩, GB.out.trans (b2.mono GB.out.size)⟩
        · exact ⟨_, rfl, .inl (by simp [hc0]), GB.out.trans (b2.mono GB.out.size)⟩
  · have c40 : ¬ (ns.length : Int) ≤ 40 := by omega
    go_enter Try.func9, Try.ntmps9
    go_wp2_with fail
    go_ret
    exact ⟨_, rfl, .inl rfl, HB.out⟩
theorem Topo.fresh {inss : List (List Int)} : ∀ {l : List Nat} {q : List Bool}, Topo inss q l → ∀ x ∈ l, q[x]? = some false
  | [], _, _ => by intro x hx; cases hx
  | i :: r, q, h => by
    intro x hx
    rcases List.mem_cons.1 hx with rfl | hx
    · exact h.1.1
    · have h2 := Topo.fresh h.2 x hx
      rw [get_set (lt_of_get h.1.1)] at h2
      split at h2
      · cases h2
      · exact h2
theorem left_zero {q : List Bool} (h : left q = 0) (x : Nat) : q[x]? ≠ some false := by
  intro hx
  have h2 := left_set hx
  omega
theorem left_none {q : List Bool} (h : ∀ x : Nat, q[x]? ≠ some false) : left q = 0 := by
  unfold left
  rw [List.countP_eq_zero]
  intro b hb
  obtain ⟨i, hi⟩ := List.getElem?_of_mem hb
  cases b with
  | true => simp
  | false => exact absurd hi (h i)
theorem Topo.all {inss : List (List Int)} : ∀ {l : List Nat} {q : List Bool}, Topo inss q l → l.length = left q → ∀ x : Nat, q[x]? = some false → x ∈ l
  | [], q, _, hl => by intro x hx; exact absurd hx (left_zero (by simpa using hl.symm) x)
  | i :: r, q, h, hl => by
    intro x hx
    have h2 := left_set h.1.1
    by_cases hxi : x = i
    · subst hxi; simp
    · refine List.mem_cons_of_mem _ (Topo.all h.2 (by simp at hl; omega) x ?_)
      rw [get_set (lt_of_get h.1.1), if_neg hxi]
      exact hx
/-- Where each that has no place has an input without one, none is without a place. -/
theorem Topo.none {inss : List (List Int)} {pl : List Bool} (hp : ∀ x : Nat, pl[x]? = some false → ∃ (is : List Int) (y : Int), inss[x]? = some is ∧ y ∈ is ∧ (y < 0 ∨ (inss.length : Int) ≤ y ∨ pl[y.toNat]? = some false)) :
    ∀ {l : List Nat} {q : List Bool}, q.length = inss.length → Topo inss q l → (∀ x : Nat, q[x]? = some true → pl[x]? ≠ some false) → ∀ x ∈ l, pl[x]? ≠ some false
  | [], _, _, _, _ => by intro x hx; cases hx
  | i :: r, q, hl, h, hq => by
    have hi : pl[i]? ≠ some false := by
      intro hpi
      obtain ⟨is, y, h1, h2, h3⟩ := hp i hpi
      obtain ⟨is', h1', h4⟩ := h.1.2
      rw [h1] at h1'
      cases h1'
      obtain ⟨h5, h6⟩ := h4 y h2
      rcases h3 with h3 | h3 | h3
      · omega
      · have := lt_of_get h6
        omega
      · exact hq _ h6 h3
    intro x hx
    rcases List.mem_cons.1 hx with rfl | hx
    · exact hi
    · refine Topo.none hp (by rw [List.length_set]; exact hl) h.2 (fun z hz => ?_) x hx
      rw [get_set (lt_of_get h.1.1)] at hz
      split at hz
      · rename_i e; subst e; exact hi
      · exact hq z hz
theorem ordP_full {inss : List (List Int)} {l : List Nat} (hl : Topo inss (List.replicate inss.length false) l) (hc : l.length = inss.length) :
    ∀ (f : Nat) {pl : List Bool} {s : LS}, left pl < f → Inv inss pl s.1 s.2.1 s.2.2 [] → (ordP inss f pl s).length = left pl := by
  intro f
  induction f with
  | zero => intro pl s h; omega
  | succ f ih =>
    intro pl s hf h
    by_cases hr : s.2.2 = []
    · rw [ordP_nil hr]
      have hno : ∀ x : Nat, pl[x]? ≠ some false := by
        intro x hx
        have hxl : x < inss.length := by rw [← h.l1]; exact lt_of_get hx
        have hxm : x ∈ l := hl.all (by rw [left_all]; exact hc) x (by simp [hxl])
        refine Topo.none (pl := pl) (fun z hz => ?_) (by simp) hl (fun z hz => ?_) x hxm hx
        · rcases h.al z hz with h1 | h1 | ⟨j, b, h1, h2, h3⟩ | ⟨is, p, y, h1, h2, h3, h4⟩
          · rw [hr] at h1; cases h1
          · cases h1
          · obtain ⟨_, is, p, h5, _, h7⟩ := h.br j b h1 h2 z h3
            exact ⟨is, (j : Int), h5, List.mem_of_getElem? h7, .inr (.inr (by simpa using h1))⟩
          · exact ⟨is, y, h1, List.mem_of_getElem? h3, by rcases h4 with h4 | h4; exact .inl h4; exact .inr (.inl h4)⟩
        · rw [List.getElem?_replicate] at hz
          split at hz <;> cases hz
      rw [left_none hno]
      rfl
    · have hp : popL s.2.2 ≠ [] := by
        intro e
        have := popL_len s.2.2
        rw [e] at this
        exact hr (List.length_eq_zero_iff.1 this.symm)
      have hpl : popL s.2.2 = (popL s.2.2).dropLast ++ [(popL s.2.2).getLast hp] := (List.dropLast_concat_getLast hp).symm
      obtain ⟨r, i, hri⟩ : ∃ r i, popL s.2.2 = r ++ [i] := ⟨_, _, hpl⟩
      have hperm : s.2.2.Perm (r ++ [i]) := by rw [← hri]; exact (popL_perm hr).symm
      obtain ⟨hpi, is, his, hps⟩ := h.rr i (hperm.mem_iff.2 (by simp))
      have hil : i < inss.length := by rw [← h.l1]; exact lt_of_get hpi
      obtain ⟨b, hb⟩ := get_of_lt (l := s.2.1) (i := i) (by rw [h.l3]; exact hil)
      rw [ordP_cons hr hri]
      have h2 := Inv.looks (s := (s.1, s.2.1, r)) (rest := []) b (by rw [List.append_nil]; exact h.take hperm hb)
      rw [getD_of hb]
      have h3 := left_set hpi
      rw [List.length_cons, ih (by omega) h2]
      exact h3
theorem ordC_full {inss : List (List Int)} {l : List Nat} (hl : Topo inss (List.replicate inss.length false) l) (hc : l.length = inss.length) : (ordC inss).length = inss.length := by
  have := ordP_full hl hc (inss.length + 1) (by rw [left_all]; omega) (Inv.begun inss)
  rwa [left_all] at this
/-- What is not of the order stays; what is has its weight. -/
theorem wtsL_out (ns : List Nd) : ∀ (l ws : List Nat) (x : Nat), x ∉ l → (wtsL ns l ws).getD x 0 = ws.getD x 0
  | [], _, _, _ => rfl
  | i :: r, ws, x, h => by
    have h1 : x ≠ i := fun e => h (by simp [e])
    have h2 : x ∉ r := fun e => h (by simp [e])
    have := wtsL_out ns r (ws.set i (wt1 (ns.getD i nd0) ws)) x h2
    unfold wtsL at *
    rw [List.foldl_cons, this]
    simp only [List.getD_eq_getElem?_getD, List.getElem?_set]
    rw [if_neg (by omega)]
theorem sumN_same {ins : List Int} {a b : List Nat} (h : ∀ y ∈ ins, a.getD y.toNat 0 = b.getD y.toNat 0) : sumN ins a = sumN ins b := by
  unfold sumN
  congr 1
  exact List.map_congr_left h
theorem wt1_same {n : Nd} {a b : List Nat} (h : ∀ y ∈ n.ins, a.getD y.toNat 0 = b.getD y.toNat 0) : wt1 n a = wt1 n b := by
  unfold wt1
  rw [sumN_same h]
theorem wtsL_in (ns : List Nd) : ∀ (l : List Nat) (q : List Bool) (ws : List Nat), ws.length = ns.length → Topo (ns.map Nd.ins) q l → ∀ x ∈ l, (wtsL ns l ws).getD x 0 = wt1 (ns.getD x nd0) (wtsL ns l ws)
  | [], _, _, _, _ => by intro x hx; cases hx
  | i :: r, q, ws, hw, h => by
    intro x hx
    have e : wtsL ns (i :: r) ws = wtsL ns r (ws.set i (wt1 (ns.getD i nd0) ws)) := rfl
    have hir : i ∉ r := fun hm => by
      have := h.2.fresh i hm
      rw [get_set (lt_of_get h.1.1), if_pos rfl] at this
      cases this
    rw [e]
    by_cases hxr : x ∈ r
    · exact wtsL_in ns r _ _ (by rw [List.length_set]; exact hw) h.2 x hxr
    · have hxi : x = i := by
        rcases List.mem_cons.1 hx with h1 | h1
        · exact h1
        · exact absurd h1 hxr
      subst hxi
      obtain ⟨is, his, hin⟩ := h.1.2
      have hxl : x < ns.length := by have := lt_of_get his; simpa using this
      obtain ⟨n, hn⟩ := get_of_lt hxl
      rw [List.getElem?_map, hn] at his
      cases his
      rw [wtsL_out ns r _ x hir, getD_of hn]
      rw [List.getD_eq_getElem?_getD, List.getElem?_set, if_pos rfl, if_pos (by omega)]
      simp only [Option.getD_some]
      refine wt1_same (fun y hy => ?_)
      obtain ⟨h0, h1⟩ := hin y hy
      have hyr : y.toNat ∉ r := fun hm => by
        have h2 := h.2.fresh _ hm
        rw [get_set (lt_of_get h.1.1)] at h2
        split at h2
        · cases h2
        · rw [h1] at h2; cases h2
      have hyx : y.toNat ≠ x := fun hm => by
        have h2 := h.1.1
        rw [← hm, h1] at h2
        cases h2
      rw [wtsL_out ns r _ _ hyr]
      simp only [List.getD_eq_getElem?_getD, List.getElem?_set]
      rw [if_neg (fun hm => hyx hm.symm)]
theorem wts_one {ns : List Nd} {a b : List Nat} (ha : ∀ x < ns.length, a.getD x 0 = wt1 (ns.getD x nd0) a) (hb : ∀ x < ns.length, b.getD x 0 = wt1 (ns.getD x nd0) b) :
    ∀ (l : List Nat) (q : List Bool), q.length = ns.length → Topo (ns.map Nd.ins) q l → (∀ x : Nat, q[x]? = some true → a.getD x 0 = b.getD x 0) → ∀ x ∈ l, a.getD x 0 = b.getD x 0
  | [], _, _, _, _ => by intro x hx; cases hx
  | i :: r, q, hq, h, hs => by
    have hil : i < ns.length := by rw [← hq]; exact lt_of_get h.1.1
    have hi : a.getD i 0 = b.getD i 0 := by
      obtain ⟨is, his, hin⟩ := h.1.2
      obtain ⟨n, hn⟩ := get_of_lt hil
      rw [List.getElem?_map, hn] at his
      cases his
      rw [ha i hil, hb i hil, getD_of hn]
      exact wt1_same (fun y hy => hs _ (hin y hy).2)
    intro x hx
    rcases List.mem_cons.1 hx with rfl | hx
    · exact hi
    · refine wts_one ha hb r _ (by rw [List.length_set]; exact hq) h.2 (fun z hz => ?_) x hx
      rw [get_set (lt_of_get h.1.1)] at hz
      split at hz
      · rename_i e; subst e; exact hi
      · exact hs z hz
theorem wts_eq {ns : List Nd} (h : LtOk ns) : (ordC (ns.map Nd.ins)).length = ns.length ∧ wts ns = wtsD ns := by
  have hd := ordD_topo ns
  have hlm : (ns.map Nd.ins).length = ns.length := List.length_map _
  have hc : (ordC (ns.map Nd.ins)).length = ns.length := by
    have := ordC_full (inss := ns.map Nd.ins) (l := ordD ns) (by rw [hlm]; exact hd) (by rw [hlm]; exact h.od)
    rwa [hlm] at this
  refine ⟨hc, ?_⟩
  have ht := ordC_topo (ns.map Nd.ins)
  rw [hlm] at ht
  have all1 : ∀ x < ns.length, x ∈ ordD ns := fun x hx => hd.all (by rw [left_all]; exact h.od) x (by simp [hx])
  have all2 : ∀ x < ns.length, x ∈ ordC (ns.map Nd.ins) := fun x hx => ht.all (by rw [left_all]; exact hc) x (by simp [hx])
  have l1 : (wts ns).length = ns.length := by unfold wts; rw [wtsL_len, List.length_replicate]
  have l2 := wtsD_len ns
  have e : ∀ x < ns.length, (wts ns).getD x 0 = (wtsD ns).getD x 0 := fun x hx =>
    wts_one (fun y hy => wtsL_in ns _ _ _ (by simp) ht y (all2 y hy)) (fun y hy => wtsL_in ns _ _ _ (by simp) hd y (all1 y hy)) (ordD ns) _ (by simp) hd (fun z hz => by
      rw [List.getElem?_replicate] at hz
      split at hz <;> cases hz) x (all1 x hx)
  apply List.ext_getElem?
  intro i
  by_cases hi : i < ns.length
  · obtain ⟨a, ha⟩ := get_of_lt (l := wts ns) (i := i) (by omega)
    obtain ⟨b, hb⟩ := get_of_lt (l := wtsD ns) (i := i) (by omega)
    have := e i hi
    rw [getD_of ha, getD_of hb] at this
    rw [ha, hb, this]
  · rw [List.getElem?_eq_none (by omega), List.getElem?_eq_none (by omega)]
theorem fault_all {ns : List Nd} : ∀ {l : List Nd}, (∀ n ∈ l, ckE ns n = 0) → fault ns l = 0
  | [], _ => rfl
  | m :: r, h => by
    rw [fault, if_pos (h m (List.mem_cons_self ..))]
    exact fault_all (fun n hn => h n (List.mem_cons_of_mem _ hn))
theorem mxN_le {l : List Nat} {B : Nat} (h : ∀ x ∈ l, x ≤ B) : mxN l ≤ B := by
  have : ∀ (l : List Nat) (a : Nat), a ≤ B → (∀ x ∈ l, x ≤ B) → l.foldl max a ≤ B := by
    intro l
    induction l with
    | nil => intro a ha _; exact ha
    | cons x r ih => intro a ha hx; exact ih _ (Nat.max_le.2 ⟨ha, hx x (by simp)⟩) (fun y hy => hx y (by simp [hy]))
  exact this l 0 (by omega) h
theorem CkOk.errJ {ns : List Nd} (h : CkOk ns) : Go.Proofs.Ytfiafbfbiidnlaa.errJ ns = 0 := by
  obtain ⟨hc, hw⟩ := wts_eq h.lt
  have h1 := h.lt.l1
  have h2 := h.lt.l2
  have e : errW ns = 0 := by
    unfold errW
    rw [if_neg (by omega), fault_all h.lt.ck, if_neg (by decide), if_neg (by omega)]
  have hm := mxN_le h.wt
  unfold Go.Proofs.Ytfiafbfbiidnlaa.errJ
  rw [e, if_neg (by decide), hw, if_neg (by omega), if_neg]
  obtain ⟨n, hn, h8⟩ := h.sk
  have : (ns.any fun n => decide (n.kind = 8)) = true := List.any_eq_true.2 ⟨n, hn, by simp [h8]⟩
  rw [this]
  decide
theorem ck_expr {ns : List Nd} {n : Nd} (h : ckE ns n = 0) (hk : 2 ≤ n.kind ∧ n.kind ≤ 4) : chk n.e = 0 := by
  unfold ckE ckN at h
  by_cases h1 : n.kind < 1 ∨ 8 < n.kind
  · rw [if_pos h1] at h; cases h
  rw [if_neg h1] at h
  by_cases h2 : inB (ns.map Nd.kind) n.kind n.ins = false
  · rw [if_pos h2] at h; cases h
  rw [if_neg h2] at h
  by_cases h3 : n.par < 1 ∨ 4 < n.par
  · rw [if_pos h3] at h; cases h
  rw [if_neg h3] at h
  by_cases h4 : exB n.kind n.e.op n.e.n n.e.l.length (chk n.e) = false
  · rw [if_pos h4] at h; cases h
  have i4 : exB n.kind n.e.op n.e.n n.e.l.length (chk n.e) = true := by simpa using h4
  unfold exB at i4
  rw [if_pos hk] at i4
  exact of_decide_eq_true i4
theorem ck_par {ns : List Nd} {n : Nd} (h : ckE ns n = 0) : 1 ≤ n.par ∧ n.par ≤ 4 := by
  unfold ckE ckN at h
  by_cases h1 : n.kind < 1 ∨ 8 < n.kind
  · rw [if_pos h1] at h; cases h
  rw [if_neg h1] at h
  by_cases h2 : inB (ns.map Nd.kind) n.kind n.ins = false
  · rw [if_pos h2] at h; cases h
  rw [if_neg h2] at h
  by_cases h3 : n.par < 1 ∨ 4 < n.par
  · rw [if_pos h3] at h; cases h
  omega
theorem CkOk.exOk {w : World} {ns : List Nd} (h : CkOk ns) (he : ExIn w ns) : ExOk w ns := fun n hn hk w' hb => by
  have h0 := ck_expr (h.lt.ck n hn) hk
  have hc : (cnt n.e 1 0).2 ≠ 71 := by
    rcases chk_of n.e with h1 | h1 | h1
    · rw [h1.1]; decide
    · rw [h1.1]; decide
    · rw [h0] at h1
      exfalso
      have := h1.2
      split at this <;> omega
  exact check_few n.e ((he n hn).below hb) hc
end Go.Proofs.Ytfiafbfbiidnlaa

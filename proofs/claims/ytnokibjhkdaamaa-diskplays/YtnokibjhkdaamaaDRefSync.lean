/-
  Walks over the document's disk: Sync, Rename, Write.
-/
import Derived.Test.YtnokibjhkdaamaaDRefOps
namespace Go.Proofs.Ytnokibjhkdaamaa
open Go.RowKit Go.Maps

/-- A row of files stays when a block apart from it is written. -/
theorem RowR.apart {w : World} {v : Value} {rs : List Rf} (h : RowR w v rs) {q : Nat} (hq : ∀ a n c, v = .slice (some a) n c → a.block ≠ q) (j : Nat) (u : Value) : RowR (w.setCell ⟨q, j, none⟩ u) v rs := by
  obtain ⟨ao, cap, h1, h2, h4⟩ := h
  refine ⟨ao, cap, h1, h2, ?_⟩
  rcases h4 with h4 | ⟨g, off, h5, h6, h7⟩
  · exact .inl h4
  · subst h5
    have hne := hq _ _ _ h1
    dsimp only at hne
    exact .inr ⟨g, off, rfl, by simpa using h6, fun i x hi j' u' hu => (World.cell?_of_block (Below.heap_setCell w ⟨q, j, none⟩ u g hne)).trans (h7 i x hi j' u' hu)⟩
theorem RAt.apart {w : World} {R : Nat} {p : Pd} {rs : List Rf} {vl : Value} (h : RAt w R p rs vl) {q : Nat} (hq : ∀ a n c, vl = .slice (some a) n c → a.block ≠ q) (hR : R ≠ q) (hu8 : ∀ j x, w.cell? ⟨q, j, none⟩ ≠ some (.int .u8 x)) (j : Nat) (u : Value) : RAt (w.setCell ⟨q, j, none⟩ u) R p rs vl :=
  ⟨h.box.other j u hR, h.eq, RowR.apart h.row hq j u, fun r hr => (h.data r hr).far (Turned.set q q w j u) hu8 hu8, h.cap⟩
/-- put, with the name as it comes. -/
theorem rPut' {w : World} {R n : Nat} {p : Pd} {rs : List Rf} {vl : Value} (h : RAt w R p rs vl) (hl : rs.length ≤ 1000000) (hr : Rise p.l) (s : ByteArray) (x : List Nat) (m : Nat) (a : Option Addr) (c : Nat) (hrd : Seg w (.slice a x.length c) x) (hn : n = x.length) :
    Calls Try.prog 49 #[.pointer (some ⟨R, 0, none⟩), .agg #[.string s, .slice a n c, .int .i64 (m : Nat)]] w fun e w' => e = .returned (.tuple #[]) ∧ (∃ rs' vl', RAt w' R { p with l := fPut ⟨nm s, x, m⟩ p.l } rs' vl') ∧ TurnedR R w w' := by
  obtain ⟨ao, cap, rfl, hc1, hc2⟩ := h.cap
  have := rPut h hl ⟨hc1, hc2⟩ hr ⟨⟨nm s, x, m⟩, a, c⟩ hrd
  dsimp only at this
  rw [ba_nm] at this
  rw [hn]
  exact this

set_option maxHeartbeats 2000000 in
set_option maxRecDepth 100000 in
theorem rSync {w : World} {R n : Nat} {p : Pd} {rs : List Rf} {vl : Value} (h : RAt w R p rs vl) (hok : Ok p n) (hlf : (Lit.int .i64 p.left).wf = true) (s : ByteArray) :
    Calls Try.prog 22 #[.pointer (some ⟨R, 0, none⟩), .string s] w (RefPost w R (pSync p (nm s))) := by
  obtain ⟨ao, cap, rfl, hc1, hc2⟩ := h.cap
  have hd := rDead h
  have hll : rs.length ≤ 1000000 := by rw [h.len]; exact Nat.le_trans hok.len hok.many
  have hat := rAt h hll s
  have HH := hide h
  clear h
  unfold pSync
  by_cases h0 : p.left = 0
  · have e2 : (p.left == 0) = true := by simp [h0]
    rw [e2] at hd
    rw [find_dead h0 (nm s)]
    clear hat
    go_enter Try.func22, Try.ntmps22
    go_wp2_with fail
    refine hd.mono ?_
    rintro e w1 ⟨rfl, rfl⟩
    go_wp2
    go_ret
    exact ⟨rfl, ⟨_, _, HH.out⟩, Turned.refl _ _ _⟩
  · have e2 : (p.left == 0) = false := by simp [h0]
    rw [e2] at hd
    cases his : isAt (nm s) p.l with
    | false =>
      rw [find_no h0 hok.rise his]
      rw [his] at hat
      generalize pos (nm s) p.l = i at *
      clear his
      go_enter Try.func22, Try.ntmps22
      go_wp2_with fail
      refine hd.mono ?_
      rintro e w1 ⟨rfl, rfl⟩
      go_wp2_with fail
      refine hat.mono ?_
      rintro e w2 ⟨rfl, q, rfl⟩
      go_wp2
      go_ret
      have hb := below_drewN' (Below.refl w1.heap.size w1) q
      exact ⟨rfl, ⟨_, _, HH.out.below hb⟩, Turned.below hb⟩
    | true =>
      obtain ⟨f, hf, hpf, hn⟩ := find_yes h0 hok.rise his
      rw [hf]
      rw [his] at hat
      obtain ⟨r, hr, rfl⟩ := HH.out.at_pos hpf
      have hil : pos (nm s) p.l < rs.length := (List.getElem?_eq_some_iff.1 hr).1
      have HR := hide hok.rise
      generalize pos (nm s) p.l = i at *
      have HRR := hide hr
      clear his hf hpf hn hr
      go_enter Try.func22, Try.ntmps22
      go_wp2_with fail
      refine hd.mono ?_
      rintro e w1 ⟨rfl, rfl⟩
      go_wp2_with fail
      refine hat.mono ?_
      rintro e w2 ⟨rfl, q, rfl⟩
      clear hat hd
      have hb := below_drewN' (Below.refl w1.heap.size w1) q
      have HB := hide hb
      have h2 := HH.out.below hb
      generalize w1.drewN q = w2 at *
      obtain ⟨b, off, rfl, d0, d1, d2⟩ := h2.file HRR.out
      obtain ⟨c0, c1, c2⟩ := h2.box.cells3
      have HPUT := hide (rPut' (h2.below ((Below.refl _ _).drew)) hll HR.out s r.f.x r.f.x.length r.a r.c ((h2.data r (List.mem_of_getElem? HRR.out)).below ((Below.refl _ _).drew)) rfl)
      clear hb h2
      go_wp2_with fail
      go_region_law (go_simp; go_at_call 49; refine HPUT.out.mono ?_; rintro e w3 ⟨rfl, ⟨rs3, vl3, h3⟩, t3⟩)
      all_goals
        have H3 := hide (And.intro h3 t3)
        clear h3 t3 HPUT
        go_wp2_with fail
        refine (rDone H3.out.1 hlf).mono ?_
        rintro e w4 ⟨rfl, h4, t4⟩
        have H4 := hide (And.intro h4 t4)
        clear h4 t4
        go_wp2
        go_ret
        exact ⟨rfl, ⟨_, _, H4.out.1⟩, ((Turned.below (HB.out.drew)).trans H3.out.2).trans H4.out.2⟩

set_option maxHeartbeats 2000000 in
set_option maxRecDepth 100000 in
theorem rRename {w : World} {R n : Nat} {p : Pd} {rs : List Rf} {vl : Value} (h : RAt w R p rs vl) (hok : Ok p n) (hlf : (Lit.int .i64 p.left).wf = true) (s t : ByteArray) :
    Calls Try.prog 24 #[.pointer (some ⟨R, 0, none⟩), .string s, .string t] w (RefPost w R (pRename p (nm s) (nm t))) := by
  obtain ⟨ao, cap, rfl, hc1, hc2⟩ := h.cap
  have hd := rDead h
  have hll : rs.length ≤ 1000000 := by rw [h.len]; exact Nat.le_trans hok.len hok.many
  have hat := rAt h hll s
  have HNM := hide (fun W => rNamed t W)
  have HH := hide h
  clear h
  unfold pRename
  by_cases h0 : p.left = 0
  · have e2 : (p.left == 0) = true := by simp [h0]
    rw [e2] at hd
    rw [find_dead h0 (nm s)]
    clear hat
    go_enter Try.func24, Try.ntmps24
    go_wp2_with fail
    refine hd.mono ?_
    rintro e w1 ⟨rfl, rfl⟩
    go_wp2
    go_ret
    exact ⟨rfl, ⟨_, _, HH.out⟩, Turned.refl _ _ _⟩
  · have e2 : (p.left == 0) = false := by simp [h0]
    rw [e2] at hd
    cases his : isAt (nm s) p.l with
    | false =>
      rw [find_no h0 hok.rise his]
      rw [his] at hat
      generalize pos (nm s) p.l = i at *
      clear his
      go_enter Try.func24, Try.ntmps24
      go_wp2_with fail
      refine hd.mono ?_
      rintro e w1 ⟨rfl, rfl⟩
      go_wp2_with fail
      refine hat.mono ?_
      rintro e w2 ⟨rfl, q, rfl⟩
      go_wp2
      go_ret
      have hb := below_drewN' (Below.refl w1.heap.size w1) q
      exact ⟨rfl, ⟨_, _, HH.out.below hb⟩, Turned.below hb⟩
    | true =>
      obtain ⟨f, hf, hpf, hn⟩ := find_yes h0 hok.rise his
      rw [hf]
      rw [his] at hat
      obtain ⟨r, hr, rfl⟩ := HH.out.at_pos hpf
      have hil : pos (nm s) p.l < rs.length := (List.getElem?_eq_some_iff.1 hr).1
      have HR := hide (And.intro hok.rise (hok.del (nm s)))
      generalize pos (nm s) p.l = i at *
      have HRR := hide hr
      clear his hf hpf hn hr
      dsimp only
      cases hnt : okName (nm t) with
      | false =>
        rw [if_pos rfl]
        rw [hnt] at HNM
        go_enter Try.func24, Try.ntmps24
        go_wp2_with fail
        refine hd.mono ?_
        rintro e w1 ⟨rfl, rfl⟩
        go_wp2_with fail
        refine hat.mono ?_
        rintro e w2 ⟨rfl, q, rfl⟩
        clear hat hd
        go_wp2_with fail
        refine (HNM.out _).mono ?_
        rintro e w3 ⟨rfl, rfl⟩
        go_wp2
        go_ret
        have hb := below_drewN' (Below.refl w1.heap.size w1) q
        exact ⟨rfl, ⟨_, _, HH.out.below hb⟩, Turned.below hb⟩
      | true =>
        rw [if_neg (by decide)]
        rw [hnt] at HNM
        go_enter Try.func24, Try.ntmps24
        go_wp2_with fail
        refine hd.mono ?_
        rintro e w1 ⟨rfl, rfl⟩
        go_wp2_with fail
        refine hat.mono ?_
        rintro e w2 ⟨rfl, q, rfl⟩
        clear hat hd
        go_wp2_with fail
        refine (HNM.out _).mono ?_
        rintro e w3 ⟨rfl, rfl⟩
        have hb := below_drewN' (Below.refl w1.heap.size w1) q
        have HB := hide hb
        have h2 := HH.out.below hb
        generalize w1.drewN q = w2 at *
        obtain ⟨b, off, rfl, d0, d1, d2⟩ := h2.file HRR.out
        obtain ⟨c0, c1, c2⟩ := h2.box.cells3
        have H2 := hide h2
        clear hb h2
        go_wp2_with fail
        have hb3 := (Below.refl w2.heap.size w2).alloc (Nat.le_refl _) (.cells #[.string ⟨r.f.n.toArray⟩, .slice r.a r.f.x.length r.c, .int .i64 (r.f.s : Nat)] 76)
        have bq : BoxT 76 _ _ _ := BoxT.new 76 w2 #[.string ⟨r.f.n.toArray⟩, .slice r.a r.f.x.length r.c, .int .i64 (r.f.s : Nat)]
        have H3 := hide (And.intro (H2.out.below hb3) (And.intro bq hb3))
        generalize w2.alloc (.cells #[.string ⟨r.f.n.toArray⟩, .slice r.a r.f.x.length r.c, .int .i64 (r.f.s : Nat)] 76) = w3 at *
        clear hb3 bq c0 c1 c2 d0 d1 d2
        refine (rDrop H3.out.1 hll HR.out.1 s).mono ?_
        rintro e w4 ⟨rfl, ⟨rs4, vl4, h4, hv4⟩, t4⟩
        have hqR : w2.heap.size ≠ R := by have := H2.out.box.lt; omega
        have bq4 : BoxT 76 w4 w2.heap.size #[.string ⟨r.f.n.toArray⟩, .slice r.a r.f.x.length r.c, .int .i64 (r.f.s : Nat)] := by
          have hb := H3.out.2.1
          have hlt := hb.lt
          unfold BoxT at *
          rw [t4.block _ hlt hqR hqR]; exact hb
        have hsg4 : Seg w4 (.slice r.a r.f.x.length r.c) r.f.x := by
          have hs0 := H3.out.1.data r (List.mem_of_getElem? HRR.out)
          obtain ⟨ao', cap', e', _⟩ := H3.out.1.cap
          exact hs0.far t4 (fun j x => H3.out.1.box.none_of (by simp) j) (fun j x => H3.out.1.box.none_of (by simp) j)
        obtain ⟨y0, y1, y2⟩ := bq4.cells3
        have fy := bq4.free 0
        have hne : ∀ a n c, vl4 = .slice (some a) n c → a.block ≠ w2.heap.size := fun a n c e => by
          rcases hv4 with rfl | hv4
          · obtain ⟨ao', cap', e', _, h4'⟩ := H2.out.row
            have hc0 := H2.out.cap
            rw [e] at e'
            simp only [Value.slice.injEq] at e'
            obtain ⟨rfl, e2, rfl⟩ := e'
            rcases h4' with h4' | ⟨g, off', h5, h6, _⟩
            · rw [h4'] at hil; simp at hil
            · cases h5
              dsimp only
              omega
          · have h1 := hv4 a n c e
            have h2 := H3.out.2.1.lt
            omega
        have hbq5 := bq4.set 0 (.string t)
        have hR4 := h4.apart hne (fun e => hqR e.symm) (fun j x => bq4.none_of (by simp) j) 0 (.string t)
        have hsg5 := hsg4.far (Turned.set w2.heap.size w2.heap.size w4 0 (.string t)) (fun j x => bq4.none_of (by simp) j) (fun j x => bq4.none_of (by simp) j)
        have hll4 : rs4.length ≤ 1000000 := by rw [h4.len]; exact Nat.le_trans HR.out.2.len HR.out.2.many
        have HPUT := hide (rPut' hR4 hll4 HR.out.2.rise t r.f.x r.f.s r.a r.c hsg5 rfl)
        have HT4 := hide t4
        have HT5 : Hid (Turned R R w2 w4) := (Turned.below H3.out.2.2).trans t4
        have HQ : Hid (∀ w', TurnedR R (w4.setCell ⟨w2.heap.size, 0, none⟩ (.string t)) w' → TurnedR R w1 w') := fun w' ht => by
          have hA : TurnedR R w1 w4 := (Turned.below HB.out).trans HT5.out
          refine ⟨ht.os.trans hA.os, ht.tape.trans hA.tape, ht.output.trans hA.output, Nat.le_trans hA.size (Nat.le_trans (by simp) ht.size), fun i hi h1 h2 => ?_⟩
          have hi4 := Nat.lt_of_lt_of_le hi hA.size
          have hiq : i ≠ w2.heap.size := by have := HB.out.size; omega
          rw [ht.block i (by simpa using hi4) h1 h2, Below.heap_setCell w4 ⟨w2.heap.size, 0, none⟩ (.string t) i hiq]
          exact hA.block i hi h1 h2
        clear h4 t4 bq4 hsg4 hbq5 hR4 hsg5 hne hv4
        go_wp2_with fail
        refine HPUT.out.mono ?_
        rintro e w6 ⟨rfl, ⟨rs6, vl6, h6⟩, t6⟩
        have H6 := hide (And.intro h6 t6)
        clear h6 t6 HPUT
        go_wp2_with fail
        refine (rDone H6.out.1 hlf).mono ?_
        rintro e w7 ⟨rfl, h7, t7⟩
        have H7 := hide (And.intro h7 t7)
        clear h7 t7
        go_wp2
        go_ret
        exact ⟨rfl, ⟨_, _, H7.out.1⟩, HQ.out _ (H6.out.2.trans H7.out.2)⟩
end Go.Proofs.Ytnokibjhkdaamaa

/-
  Walks over the document's disk: Copy, Crash.
-/
import Derived.Test.YtnokibjhkdaamaaDRefWrite
namespace Go.Proofs.Ytnokibjhkdaamaa
open Go.RowKit Go.Maps

set_option maxHeartbeats 2000000 in
set_option maxRecDepth 100000 in
theorem rCopy {w : World} {R n : Nat} {p : Pd} {rs : List Rf} {vl : Value} (h : RAt w R p rs vl) (hok : Ok p n) :
    Calls Try.prog 35 #[.pointer (some ⟨R, 0, none⟩)] w fun e w' => ∃ R', e = .returned (.pointer (some ⟨R', 0, none⟩)) ∧ (∃ rs' vl', RAt w' R' p rs' vl') ∧ w.heap.size ≤ R' ∧ Below w.heap.size w w' := by
  have hll : rs.length ≤ 1000000 := by rw [h.len]; exact Nat.le_trans hok.len hok.many
  obtain ⟨ao, cap, rfl, hc1, hc2⟩ := h.cap
  obtain ⟨c0, c1, c2⟩ := h.box.cells3
  have HH := hide h
  have HROW : Hid (RowR w.drew (.slice ao rs.length cap) rs) := h.row
  have HBX : Hid (∀ W, Below w.heap.size w W → BoxT 71 W R #[.slice ao rs.length cap, .int .i64 p.room, .int .i64 p.left]) := fun W hW => h.box.keeps hW
  clear h
  go_enter Try.func35, Try.ntmps35
  go_wp2_with fail
  go_region_law (refine stepR rfl _ _ rfl rfl rfl (OwnR.nil w.heap.size _) HROW.out (by simp; omega) (Nat.le_refl _) ?_; intro v3 w3 o3 g3; have B3 : Hid (Below w.heap.size w w3) := own_b ((Below.refl _ _).drew) (OwnR.nil _ _) g3 (Nat.le_refl _); obtain ⟨x0, x1, x2⟩ := (HBX.out w3 B3.out).cells3; obtain ⟨a5, n5, c5, hn5, rfl⟩ := o3.form)
  all_goals
    rw [List.nil_append] at o3
    have O3 := hide o3
    clear o3 g3 HROW HBX
    go_wp2
    go_ret
    have hB := (Below.refl w3.heap.size w3).alloc (Nat.le_refl _) (.cells #[.slice a5 n5 c5, .int .i64 p.room, .int .i64 p.left] 71)
    refine ⟨_, rfl, ⟨rs, _, ⟨BoxT.new 71 w3 _, HH.out.eq, RowR.alloc (O3.out.row (by omega)) _, fun r hr => ((HH.out.data r hr).below B3.out).below hB, O3.out.caps⟩⟩, B3.out.size, B3.out.trans (hB.mono B3.out.size)⟩
def Rf.torn (r : Rf) (kept : Int) : Rf := ⟨r.f.torn kept, r.a, r.c⟩
/-- The new list when i files are gone over. -/
def tornR (keep : List Int) (rs : List Rf) : List Rf := rs.mapIdx fun i r => r.torn (keep.getD i 0)
theorem tornR_len (keep : List Int) (rs : List Rf) : (tornR keep rs).length = rs.length := by simp [tornR]
theorem tornR_succ {keep : List Int} {rs : List Rf} {i : Nat} {r : Rf} (h : rs[i]? = some r) : (tornR keep rs).take (i + 1) = (tornR keep rs).take i ++ [r.torn (keep.getD i 0)] := by
  have hi : i < rs.length := (List.getElem?_eq_some_iff.1 h).1
  have hi' : i < (tornR keep rs).length := by rw [tornR_len]; exact hi
  rw [List.take_succ_eq_append_getElem hi']
  congr 1
  have hg : (tornR keep rs)[i]? = some (r.torn (keep.getD i 0)) := by simp [tornR, h]
  rw [List.getElem?_eq_getElem hi'] at hg
  simpa using hg
theorem tornR_eq {keep : List Int} {rs : List Rf} {l : List Fi} (h : rs.map Rf.f = l) : (tornR keep rs).map Rf.f = crashL keep l := by
  subst h
  apply List.ext_getElem?
  intro j
  rw [crashL_get, List.getElem?_map, List.getElem?_map]
  simp only [tornR, List.getElem?_mapIdx]
  cases rs[j]? <;> rfl
theorem tornR_mem {keep : List Int} {rs : List Rf} {z : Rf} (h : z ∈ tornR keep rs) : ∃ r ∈ rs, ∃ c, z = r.torn c := by
  obtain ⟨j, hj, rfl⟩ := List.getElem_of_mem h
  have hj' : j < rs.length := by rw [← tornR_len keep]; exact hj
  exact ⟨rs[j], List.getElem_mem hj', keep.getD j 0, by simp [tornR]⟩
theorem Seg.cut {w : World} {a : Option Addr} {x : List Nat} {c : Nat} (h : Seg w (.slice a x.length c) x) (k : Nat) (hk : k ≤ x.length) : Seg w (.slice a (x.take k).length c) (x.take k) := by
  have e : (x.take k).length = k := by rw [List.length_take]; omega
  rw [e]
  exact h.first k hk
theorem lit_row2 (w : World) (r : Rf) (a b c : Value) (h : Rf.cs r = [a, b, c]) : RowR (w.alloc (.cells #[a, b, c] 76)) (.slice (some ⟨w.heap.size, 0, none⟩) 1 1) [r] := by
  have := lit_row w r
  have e : #[Value.string ⟨r.f.n.toArray⟩, .slice r.a r.f.x.length r.c, .int .i64 (r.f.s : Nat)] = #[a, b, c] := by
    have h2 : [Value.string ⟨r.f.n.toArray⟩, .slice r.a r.f.x.length r.c, .int .i64 (r.f.s : Nat)] = [a, b, c] := h
    simp only [List.cons.injEq, and_true] at h2
    obtain ⟨rfl, rfl, rfl⟩ := h2
    rfl
  rw [e] at this
  exact this
theorem lit_row3 (w : World) (r : Rf) (a b c : Value) (g : Nat) (hg : g = w.heap.size) (h : Rf.cs r = [a, b, c]) : RowR (w.alloc (.cells #[a, b, c] 76)) (.slice (some ⟨g, 0, none⟩) 1 1) [r] := by
  subst hg
  exact lit_row2 w r a b c h
theorem OwnR.below {base : Nat} {w w' : World} {v : Value} {rs : List Rf} (h : OwnR base w v rs) (hb : Below w.heap.size w w') : OwnR base w' v rs := by
  refine ⟨h.1, ?_⟩
  rcases h.2 with h | ⟨g, cap, cur, h1, h2, h3, h4⟩
  · exact .inl h
  · exact .inr ⟨g, cap, cur, h1, h2, by rw [hb.block g (Array.getElem?_eq_some_iff.1 h3).1]; exact h3, h4⟩
/-- In the midst of the document's crash. -/
structure MidR (w wr : World) (rs : List Rf) (keep : List Int) (i : Nat) (v : Value) : Prop where
  own : OwnR w.heap.size wr v ((tornR keep rs).take i)
  below : Below w.heap.size w wr

set_option maxHeartbeats 4000000 in
set_option maxRecDepth 100000 in
theorem rCrash {w : World} {R n : Nat} {p : Pd} {rs : List Rf} {vl : Value} (h : RAt w R p rs vl) (hok : Ok p n) (vk : Value) (kl : List Int) (hk : Hid (∀ w', Below w.heap.size w w' → ISeg w' vk kl)) :
    Calls Try.prog 34 #[.pointer (some ⟨R, 0, none⟩), vk] w fun e w' => e = .returned (.tuple #[]) ∧ (∃ rs' vl', RAt w' R (pCrash p kl) rs' vl') ∧ TurnedR R w w' := by
  have hll : rs.length ≤ 1000000 := by rw [h.len]; exact Nat.le_trans hok.len hok.many
  obtain ⟨ao, cap, rfl, hc1, hc2⟩ := h.cap
  obtain ⟨ka, kc, rfl, hk2, _⟩ := hk.out w (Below.refl _ _)
  have HH := hide h
  have HOK := hide hok
  clear h
  go_enter Try.func34, Try.ntmps34
  go_wp2_with fail
  go_loopw [4, 5] (fun vv iv wr => ∃ i : Nat, i ≤ rs.length ∧ iv = .int .i64 i ∧ Hid (MidR w wr rs kl i vv)) (fun _ iv _ => rs.length - (intOf iv).toNat)
  case atStart => exact ⟨0, Nat.zero_le _, rfl, ⟨OwnR.nil _ _, Below.refl _ _⟩⟩
  case round =>
    obtain ⟨i, hi, rfl, HI⟩ := hrel
    have h1 := HH.out.below HI.out.below
    obtain ⟨c0, c1, c2⟩ := h1.box.cells3
    have fr := h1.box.free
    by_cases hlt : i < rs.length
    · obtain ⟨r, hr⟩ : ∃ r, rs[i]? = some r := ⟨_, List.getElem?_eq_getElem hlt⟩
      obtain ⟨b, off, rfl, d0, d1, d2⟩ := h1.file hr
      have hrm := List.mem_of_getElem? hr
      have hfm : r.f ∈ p.l := by rw [← HH.out.eq]; exact List.mem_map_of_mem hrm
      have hfs := HOK.out.sync r.f hfm
      have hfx := HOK.out.size r.f hfm
      have hrc : r.f.x.length ≤ r.c := by obtain ⟨_, _, e, hh, _⟩ := HH.out.data r hrm; cases e; exact hh
      have hleft := r.f.left_le (kl.getD i 0) hfs
      have HN := hide (tornR_succ (keep := kl) hr)
      have HL : Hid (((tornR kl rs).take i).length + [r.torn (kl.getD i 0)].length ≤ 1000000000) := hide (by have := tornR_len kl rs; simp only [List.length_take, List.length_singleton]; omega)
      have hcs : Rf.cs (r.torn (kl.getD i 0)) = [.string ⟨r.f.n.toArray⟩, .slice r.a (r.f.left (kl.getD i 0)) r.c, .int .i64 (r.f.left (kl.getD i 0) : Nat)] := by
        have e : (r.f.x.take (r.f.left (kl.getD i 0))).length = r.f.left (kl.getD i 0) := by rw [List.length_take]; omega
        show [_, Value.slice r.a (r.f.x.take (r.f.left (kl.getD i 0))).length r.c, _] = _
        rw [e]
        rfl
      have hml : (r.f.s : Int) + min (max (kl.getD i 0) 0) ((r.f.x.length : Int) - (r.f.s : Int)) = (r.f.left (kl.getD i 0) : Nat) := by unfold Fi.left; omega
      generalize r.f.left (kl.getD i 0) = m at *
      have HCS := hide hcs
      have hmc : m ≤ r.c := by omega
      have HM := hide hml
      have hw1 : IntKind.i64.wrap ((r.f.x.length : Int) - (r.f.s : Int)) = (r.f.x.length : Int) - (r.f.s : Int) := by rw [IntKind.wrap_i64]; omega
      have HBELOW := hide HI.out.below
      have HOWN := hide HI.out.own
      clear hr hrm hfm hcs h1
      by_cases hik : i < kl.length
      · obtain ⟨ka', kc', ek, _, hkc⟩ := hk.out wr HBELOW.out
        simp only [Value.slice.injEq] at ek
        obtain ⟨rfl, -, rfl⟩ := ek
        rcases hkc with h0 | ⟨gk, offk, rfl, hgk, hkc⟩
        · rw [h0] at hik; simp at hik
        obtain ⟨x, hx⟩ : ∃ x, kl[i]? = some x := ⟨_, List.getElem?_eq_getElem hik⟩
        have hkx := hkc i x hx 0 _ rfl
        rw [Nat.mul_one, Nat.add_zero] at hkx
        have hgx : kl.getD i 0 = x := by rw [List.getD_eq_getElem?_getD, hx]; rfl
        rw [hgx] at hml
        have hw2 : wrap64 ((r.f.s : Int) + min (max x 0) ((r.f.x.length : Int) - (r.f.s : Int))) = (m : Nat) := by rw [hml]; unfold wrap64; omega
        clear hkc hx hgx
        have hkx2 : ∀ o, (wr.alloc o).cell? ⟨gk, offk + i, none⟩ = some (.int .i64 x) := fun o => (((Below.refl wr.heap.size wr).alloc (Nat.le_refl _) o).cell (p := ⟨gk, offk + i, none⟩) hgk).trans hkx
        go_wp2_with fail
        go_quiet (fail)
        have bq : BoxT 76 _ _ _ := BoxT.new 76 wr #[.string ⟨r.f.n.toArray⟩, .slice r.a r.f.x.length r.c, .int .i64 (r.f.s : Nat)]
        have hB5 := below_drewN' ((Below.refl wr.heap.size wr).alloc (Nat.le_refl _) (.cells #[.string ⟨r.f.n.toArray⟩, .slice r.a r.f.x.length r.c, .int .i64 (r.f.s : Nat)] 76)) nq
        have bq5 : BoxT 76 ((wr.alloc (.cells #[.string ⟨r.f.n.toArray⟩, .slice r.a r.f.x.length r.c, .int .i64 (r.f.s : Nat)] 76)).drewN nq) wr.heap.size #[.string ⟨r.f.n.toArray⟩, .slice r.a r.f.x.length r.c, .int .i64 (r.f.s : Nat)] := bq
        generalize (wr.alloc (.cells #[.string ⟨r.f.n.toArray⟩, .slice r.a r.f.x.length r.c, .int .i64 (r.f.s : Nat)] 76)).drewN nq = W5 at *
        have b6 : BoxT 76 (W5.setCell ⟨wr.heap.size, 1, none⟩ (.slice r.a m r.c)) wr.heap.size #[.string ⟨r.f.n.toArray⟩, .slice r.a m r.c, .int .i64 (r.f.s : Nat)] := bq5.set 1 _
        have b7 : BoxT 76 ((W5.setCell ⟨wr.heap.size, 1, none⟩ (.slice r.a m r.c)).setCell ⟨wr.heap.size, 2, none⟩ (.int .i64 (m : Nat))) wr.heap.size #[.string ⟨r.f.n.toArray⟩, .slice r.a m r.c, .int .i64 (m : Nat)] := b6.set 2 _
        obtain ⟨e0, e1, e2⟩ := bq5.cells3
        obtain ⟨f0, f1, f2⟩ := b6.cells3
        obtain ⟨g0, g1, g2⟩ := b7.cells3
        have q5 := bq5.free
        have q6 := b6.free
        have hB7 := (hB5.setCell (p := ⟨wr.heap.size, 1, none⟩) (Nat.le_refl _) (.slice r.a m r.c)).setCell (p := ⟨wr.heap.size, 2, none⟩) (Nat.le_refl _) (.int .i64 (m : Nat))
        have HB7 := hide hB7
        have HC7 := hide (HBELOW.out.trans (HB7.out.mono HBELOW.out.size))
        clear bq bq5 b6 b7 hB5 hB7 HI
        go_wp2_with (first | (at_builtin; refine appR rfl _ _ rfl rfl rfl ((HOWN.out.below HB7.out).alloc _) (lit_row3 _ (r.torn (kl.getD i 0)) _ _ _ _ (by first | rfl | simp) HCS.out) HL.out (HC7.out.alloc HC7.out.size _).size ?_; intro v8 w8 o8 g8; have B8 : Hid (Below w.heap.size w w8) := hide (own_b (HC7.out.alloc HC7.out.size _) ((HOWN.out.below HB7.out).alloc _) g8 (HC7.out.alloc HC7.out.size _).size)) | fail)
        have O8 : Hid (OwnR w.heap.size w8 v8 ((tornR kl rs).take (i + 1))) := by rw [HN.out]; exact o8
        clear o8 g8
        go_roundw
        case rel => exact ⟨i + 1, by omega, by go_num, ⟨O8.out, B8.out⟩⟩
        case measure => simp [intOf]; omega
      · have hgx : kl.getD i 0 = 0 := by rw [List.getD_eq_getElem?_getD, List.getElem?_eq_none (by omega)]; rfl
        rw [hgx] at hml
        have hms : m = r.f.s := by omega
        subst hms
        clear hml hgx HI
        have hB7 := (Below.refl wr.heap.size wr).alloc (Nat.le_refl _) (.cells #[.string ⟨r.f.n.toArray⟩, .slice r.a r.f.s r.c, .int .i64 (r.f.s : Nat)] 76)
        have HB7 := hide hB7
        have HC7 := hide (HBELOW.out.trans (HB7.out.mono HBELOW.out.size))
        clear hB7
        go_wp2_with (first | (at_builtin; refine appR rfl _ _ rfl rfl rfl ((HOWN.out.below HB7.out).alloc _) (lit_row3 _ (r.torn (kl.getD i 0)) _ _ _ _ (by first | rfl | simp) HCS.out) HL.out (HC7.out.alloc HC7.out.size _).size ?_; intro v8 w8 o8 g8; have B8 : Hid (Below w.heap.size w w8) := hide (own_b (HC7.out.alloc HC7.out.size _) ((HOWN.out.below HB7.out).alloc _) g8 (HC7.out.alloc HC7.out.size _).size)) | fail)
        have O8 : Hid (OwnR w.heap.size w8 v8 ((tornR kl rs).take (i + 1))) := by rw [HN.out]; exact o8
        clear o8 g8
        go_roundw
        case rel => exact ⟨i + 1, by omega, by go_num, ⟨O8.out, B8.out⟩⟩
        case measure => simp [intOf]; omega
    · obtain rfl : i = rs.length := by omega
      obtain ⟨a5, n5, c5, hn5, rfl⟩ := HI.out.own.form
      have HOWN : Hid (OwnR w.heap.size wr (.slice a5 n5 c5) (tornR kl rs)) := by
        have := HI.out.own
        rw [← tornR_len kl rs, List.take_length] at this
        exact this
      have hd5 : ∀ z ∈ tornR kl rs, Seg wr (.slice z.a z.f.x.length z.c) z.f.x := fun z hz => by
        obtain ⟨r, hr, c, rfl⟩ := tornR_mem hz
        have hfm : r.f ∈ p.l := by rw [← HH.out.eq]; exact List.mem_map_of_mem hr
        exact ((HH.out.data r hr).below HI.out.below).cut _ (r.f.left_le c (HOK.out.sync r.f hfm))
      obtain ⟨g1, g2⟩ := HH.out.newList HI.out.below HOWN.out (by rw [tornR_len]; omega) hd5 (crashL kl p.l) (tornR_eq HH.out.eq)
      have HG := hide (And.intro g1 (And.intro g2 (g1.num 2 (.int .i64 (-1)) (pCrash p kl) rfl rfl)))
      obtain ⟨y0, y1, y2⟩ := g1.box.cells3
      have fy := g1.box.free
      clear h1 hd5 g1 g2 HI
      go_wp2
      go_end0
      exact ⟨rfl, ⟨_, _, HG.out.2.2.1⟩, HG.out.2.1.trans HG.out.2.2.2⟩
end Go.Proofs.Ytnokibjhkdaamaa

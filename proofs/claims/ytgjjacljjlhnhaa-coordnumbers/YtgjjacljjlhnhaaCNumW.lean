/-
  CoordNumbers: the walk.
-/
import Derived.Test.YtgjjacljjlhnhaaCNumP
import Derived.Test.YtgjjacljjlhnhaaCOpen
namespace Go.Proofs.Ytgjjacljjlhnhaa
open Go.RowKit

theorem num_new (w w1 : World) (hb1 : Below w.heap.size w w1) (iv to_ : Int) : Calls Try.prog 10 #[.slice (some ⟨w1.heap.size, 0, none⟩) 1 1, .slice (some ⟨w1.heap.size + 1, 0, none⟩) 1 1, .int .i64 iv, .int .i64 to_] ((w1.alloc (.cells #[.int .i64 0] 3)).alloc (.cells #[.int .i64 0] 3)) fun e w' => ∃ k P, e = .returned (.pointer (some ⟨k, 0, none⟩)) ∧ KX w w' k P (cNew [0] [0] iv to_) [] := by
  have hb := below_box2 w1 (.cells #[.int .i64 0] 3) (.cells #[.int .i64 0] 3)
  have h1 : BoxT 3 ((w1.alloc (.cells #[.int .i64 0] 3)).alloc (.cells #[.int .i64 0] 3)) w1.heap.size #[.int .i64 0] := (BoxT.new 3 w1 _).alloc _
  have h2 : BoxT 3 ((w1.alloc (.cells #[.int .i64 0] 3)).alloc (.cells #[.int .i64 0] 3)) (w1.heap.size + 1) #[.int .i64 0] := BoxT.new_at (by simp)
  have s1 := seg_lit (c := 1) [0] h1 (by simp)
  have s2 := seg_lit (c := 1) [0] h2 (by simp)
  generalize (w1.alloc (.cells #[.int .i64 0] 3)).alloc (.cells #[.int .i64 0] 3) = W at *
  have h0 : ∀ x ∈ [(0 : Int)], In64 x := fun x hx => by
    rw [List.mem_singleton] at hx
    subst hx
    unfold In64
    omega
  refine (KX.made (w0 := w) (s' := cNew [0] [0] iv to_) (hb1.trans (hb.mono hb1.size)) s1 (Nat.le_refl _) s2 (Nat.le_refl _) (by simp) (by simp) h0 h0 iv to_ rfl).mono ?_
  rintro e w9 ⟨l, P, rfl, k9, -, -⟩
  exact ⟨l, P, rfl, k9⟩
theorem KX.storedB {w0 w : World} {k : Nat} {P : Sh} {s : Cd} {L : List (Value × List Ct)} (h : KX w0 w k P s L) (n : Nat) (ok : Bool) {t : TypeId} {b : Nat} {ca : Array Value} (hb : BoxT t w b ca) (hn : ¬ Mu P k b) :
    Calls Try.prog 18 #[.pointer (some ⟨k, 0, none⟩), .int .u64 (n : Int), .bool ok] w fun r w' => ∃ u, r = .returned u ∧ KX w0 w' k P (cStoS s n ok) [] ∧ BoxT t w' b ca := by
  refine (Stored_any h.x n ok).mono ?_
  rintro r w' ⟨u, rfl, o1, c1⟩
  exact ⟨u, rfl, (h.post c1).drop, hb.back (c1.f.block b hb.lt hn)⟩
theorem KX.takeB {w0 w : World} {k : Nat} {P : Sh} {s : Cd} {L : List (Value × List Ct)} (h : KX w0 w k P s L) (m : Ct) (ht : In64 m.task) {t : TypeId} {b : Nat} {ca : Array Value} (hb : BoxT t w b ca) (hn : ¬ Mu P k b) :
    Calls Try.prog 16 #[.pointer (some ⟨k, 0, none⟩), .agg #[.int .i64 m.kind, .int .u64 (m.ep : Int), .int .u64 (m.n : Int), .int .i64 m.task]] w fun r w' => r = .returned (.tuple #[.int .u64 (cTakeN s m : Int), .slice none 0 0]) ∧ KX w0 w' k P (cTakeS s m) L ∧ BoxT t w' b ca := by
  refine (Take_any h.x m ht).mono ?_
  rintro r w' ⟨rfl, c1⟩
  exact ⟨rfl, h.post c1, hb.back (c1.f.block b hb.lt hn)⟩
theorem Nv.last {s : Cd} {last last' e i : Nat} (h : Nv s last e i) (hl : last' ≤ s.gr) : Nv s last' e i := ⟨h.t, hl, h.d, h.u, h.g, h.ti, h.be, h.pa, h.to_, h.e⟩
theorem tickO_len (s : Cd) : (cTickO s).length ≤ s.T.length + ((cTickS s).S.length + (cTickS s).T.length) := by
  unfold cTickO
  split
  · simp
  · split
    · unfold cRest
      rw [tellL_len]
      have := miss_len s.T s.rd
      omega
    · rw [List.length_append]
      have := cComm_len (cTickS s)
      have := cTrig_len (cTickS s)
      omega
theorem bnd_le (x : Int) : bnd x ≤ 1000 := by unfold bnd; omega
theorem num_start (iv to_ : Int) : Nv (cNew [0] [0] iv to_) 0 0 0 := by
  rw [cNew_eq]
  exact ⟨by show (once [0]).length ≤ 1; decide, Nat.le_refl _, Nat.le_refl _, Nat.le_refl _, Nat.le_refl _, Nat.le_refl _, Nat.le_refl _, by show bnd to_ ≤ 1048576; have := bnd_le to_; omega, by show bnd to_ ≤ 1048576; have := bnd_le to_; omega, Nat.le_refl _⟩
theorem LSeg.stp {B : Nat} {w : World} {ao : Option Addr} {n cap : Nat} {xs : List Stp} (h : LSeg 10 Stp.cs B w (.slice ao n cap) xs) {i : Nat} {x : Stp} (hx : xs[i]? = some x) : ∃ b o, ao = some ⟨b, o, none⟩ ∧ b < B ∧ w.cell? ⟨b, o + i * 10, none⟩ = some (.int .i64 x.wh) ∧ w.cell? ⟨b, o + i * 10 + 1, none⟩ = some (.int .i64 x.m.kind) ∧ w.cell? ⟨b, o + i * 10 + 2, none⟩ = some (.int .u64 (x.m.ep : Int)) ∧ w.cell? ⟨b, o + i * 10 + 3, none⟩ = some (.int .u64 (x.m.n : Int)) ∧ w.cell? ⟨b, o + i * 10 + 4, none⟩ = some (.int .i64 x.m.task) ∧ w.cell? ⟨b, o + i * 10 + 5, none⟩ = some (.int .u64 (x.n : Int)) ∧ w.cell? ⟨b, o + i * 10 + 6, none⟩ = some (.int .u64 (x.fr : Int)) ∧ w.cell? ⟨b, o + i * 10 + 7, none⟩ = some (.int .u64 (x.la : Int)) ∧ w.cell? ⟨b, o + i * 10 + 8, none⟩ = some (.bool x.ok) ∧ w.cell? ⟨b, o + i * 10 + 9, none⟩ = some (.bool x.ow) := by
  obtain ⟨b, o, e, hb, _, d⟩ := h.readAt hx
  exact ⟨b, o, e, hb, d 0 _ rfl, d 1 _ rfl, d 2 _ rfl, d 3 _ rfl, d 4 _ rfl, d 5 _ rfl, d 6 _ rfl, d 7 _ rfl, d 8 _ rfl, d 9 _ rfl⟩
set_option maxHeartbeats 4000000 in
set_option maxRecDepth 100000 in
theorem CoordNumbers_walk {w : World} {ao : Option Addr} {cap : Nat} {l : List Stp} (hl : LSeg 10 Stp.cs w.heap.size w (.slice ao l.length cap) l) (iv to_ : Int) :
    Calls Try.prog 5 #[.int .i64 iv, .int .i64 to_, .slice ao l.length cap] w fun e w' => e = .returned (.bool true) ∧ Below w.heap.size w w' := by
  have HL := hide hl
  have hlen := hl.len
  clear hl
  by_cases h400 : (l.length : Int) > 400
  · clear hlen
    go_enter Try.func5, Try.ntmps5
    go_wp2_with (first | (go_at_call 8; refine (known_any _).mono ?_; rintro e w1 ⟨rfl, b1⟩; have B1 := hide b1; clear b1) | fail)
    go_ret
    exact ⟨rfl, B1.out⟩
  go_enter Try.func5, Try.ntmps5
  go_wp2_with (first | (go_at_call 8; refine (known_any _).mono ?_; rintro e w1 ⟨rfl, b1⟩; have B1 := hide b1; clear b1) | (go_at_call 10; refine (num_new _ _ B1.out _ _).mono ?_; rintro e w2 ⟨k, P, rfl, k2⟩; have A0 := hide k2; clear k2) | fail)
  have hl4 : l.length ≤ 400 := by omega
  go_loopg [8, 9, 10, 11, 12, 13, 14, 15] (l.length + 1) (fun gh lv ev iv xv nv wv ov kv wr => ∃ (i last e : Nat) (s : Cd), iv = .int .i64 (i : Int) ∧ lv = .int .u64 (last : Int) ∧ ev = .int .u64 (e : Int) ∧ i ≤ l.length ∧ l.length + 1 ≤ gh + i ∧ Hid (Nv s last e i) ∧ Hid (KX w wr k P s []))
  case atStart => exact ⟨0, 0, 0, _, rfl, rfl, rfl, by omega, by omega, num_start _ _, A0⟩
  case round =>
    clear A0
    obtain ⟨i, last, e, s, rfl, rfl, rfl, hi, hg, HN, HA⟩ := hrel
    obtain ⟨go, rfl⟩ : ∃ go, gk = go + 1 := ⟨gk - 1, by omega⟩
    by_cases hlt : i < l.length
    · obtain ⟨x, hx⟩ := get_of_lt hlt
      have bt : (i : Int) < (l.length : Int) := by omega
      obtain ⟨nb, no, rfl, nlt, e0, e1, e2, e3, e4, e5, e6, e7, e8, e9⟩ := (HL.out.below HA.out.b).stp hx
      obtain ⟨xw, mm, xn, xf, xl, xo, xq⟩ := x
      obtain ⟨mk, me, mn, mt⟩ := mm
      simp only at e0 e1 e2 e3 e4 e5 e6 e7 e8 e9
      clear hx
      go_upto_block 2 with fail
      obtain ⟨W, hW⟩ : ∃ W, W = wr.alloc (.cells #[.int .i64 xw, .int .i64 mk, .int .u64 (me : Int), .int .u64 (mn : Int), .int .i64 mt, .int .u64 (xn : Int), .int .u64 (xf : Int), .int .u64 (xl : Int), .bool xo, .bool xq] 46) := ⟨_, rfl⟩
      rw [← hW]
      have hbx : BoxT 46 W wr.heap.size #[.int .i64 xw, .int .i64 mk, .int .u64 (me : Int), .int .u64 (mn : Int), .int .i64 mt, .int .u64 (xn : Int), .int .u64 (xf : Int), .int .u64 (xl : Int), .bool xo, .bool xq] := by rw [hW]; exact BoxT.new _ _ _
      have hbw : Below wr.heap.size wr W := by rw [hW]; exact below_box wr _
      have HA2 := hide (HA.out.below hbw)
      have HBX := hide hbx
      have y1 : W.cell? ⟨wr.heap.size, 1, none⟩ = some (.int .i64 mk) := hbx.cellAt 1
      have y8 : W.cell? ⟨wr.heap.size, 8, none⟩ = some (.bool xo) := hbx.cellAt 8
      have hne : ¬ Mu P k wr.heap.size := fun hm => by
        have := HA.out.x.flt _ (.inl hm)
        omega
      have HNE := hide hne
      have he4 : e ≤ 400 := by have := HN.out.e; omega
      clear hW hbw hbx hne e0 e1 e2 e3 e4 e5 e6 e7 e8 e9 HA
      by_cases c8 : xw = 8
      · subst c8
        clear y1
        have KC : Hid (W.drew.cell? ⟨wr.heap.size, 8, none⟩ = some (.bool xo)) := hide y8
        go_wp2_with fail
        refine wp_region_M (S := fun w' => w'.cell? ⟨wr.heap.size, 8, none⟩ = some (.bool xo)) (late := []) (by kernel_rfl) KC.out (fun hHeld => ?_)
        (try simp only [List.size_toArray, List.length_cons, List.length_nil, Nat.zero_add, Nat.reduceAdd, Array.replicate, List.replicate])
        refine wpAnyM_take (i := 0) (oi := ⟨_, _, _, _, _, _⟩) (v := ?_) rfl (by kernel_rfl) (by kernel_rfl) (by kernel_rfl) (by kernel_rfl) (fun _ _ _ h => h) (Or.inl ⟨by rfl, ?_⟩) hHeld ?_
        rotate_left
        · (intro w' hSw; (try dsimp only at hSw); go_simp; try (with_reducible rfl))
        (try simp only [Act.put, List.setIfInBounds_toArray, List.set_cons_zero, List.set_cons_succ])
        refine wpAnyM_take (i := 1) (oi := ⟨_, _, _, _, _, _⟩) (v := ?_) rfl (by kernel_rfl) (by kernel_rfl) (by kernel_rfl) (by kernel_rfl) (fun _ _ _ h => h) (Or.inl ⟨by rfl, ?_⟩) hHeld ?_
        rotate_left
        · (intro w' hSw; (try dsimp only at hSw); go_simp; try (with_reducible rfl))
        (try simp only [Act.put, List.setIfInBounds_toArray, List.set_cons_zero, List.set_cons_succ])
        refine wpAnyM_take (i := 3) (oi := ⟨_, _, _, _, _, _⟩) (v := ?_) rfl (by kernel_rfl) (by kernel_rfl) (by kernel_rfl) (by kernel_rfl) (fun _ _ _ h => h) (Or.inl ⟨by rfl, ?_⟩) hHeld ?_
        rotate_left
        · (intro w' hSw; (try dsimp only at hSw); go_simp; try (with_reducible rfl))
        (try simp only [Act.put, List.setIfInBounds_toArray, List.set_cons_zero, List.set_cons_succ])
        refine wpAnyM_take (i := 4) (oi := ⟨_, _, _, _, _, _⟩) (v := ?_) rfl (by kernel_rfl) (by kernel_rfl) (by kernel_rfl) (by kernel_rfl) (fun _ _ _ h => h) (Or.inl ⟨by rfl, ?_⟩) hHeld ?_
        rotate_left
        · (intro w' hSw; (try dsimp only at hSw); go_simp; try (with_reducible rfl))
        (try simp only [Act.put, List.setIfInBounds_toArray, List.set_cons_zero, List.set_cons_succ])
        refine wpAnyM_one (i := 2) (o := ⟨_, _, _, _, _, _⟩) (by kernel_rfl) rfl (fun K hK => ?_)
        go_simp
        go_at_call 17
        refine (Under_any HA2.out.x.cp.drew.x).mono ?_
        rintro e w5 ⟨rfl, rfl⟩
        refine hK.out _ _ (hHeld) (fun hHeld => ?_)
        clear hK K
        (try simp only [List.setIfInBounds_toArray, List.set_cons_zero, List.set_cons_succ])
        refine wpAnyM_one (i := 5) (o := ⟨_, _, _, _, _, _⟩) (by kernel_rfl) rfl (fun K hK => ?_)
        go_simp
        go_at_call 18
        refine ((HA2.out.below (Below.refl _ _).drew).storedB s.un xo (HBX.out.below (Below.refl _ _).drew) HNE.out).mono ?_
        rintro e w6 ⟨u6, rfl, k6, b6⟩
        have A6 := hide k6
        clear k6
        refine hK.out _ _ (b6.cellAt 8) (fun hHeld => ?_)
        clear hK K
        (try simp only [List.setIfInBounds_toArray, List.set_cons_zero, List.set_cons_succ])
        refine wpAnyM_done (by kernel_rfl) ?_ _
        clear hHeld
        go_wp2_with fail
        go_roundg go
        case rel => exact ⟨i + 1, last, e, _, by go_num, rfl, rfl, by omega, by omega, HN.out.stored _ _, A6⟩
        case measure => omega
      · by_cases c9 : xw = 9
        · subst c9
          go_wp2_with (first | (go_at_call 21; refine (Durable_any HA2.out.x).mono ?_; rintro r w5 ⟨rfl, rfl⟩) | (go_at_call 14; refine (HA2.out.begin (e + 1) s.du last rfl rfl).mono ?_; rintro r w6 ⟨u6, rfl, k6⟩; have A6 := hide k6.drop; clear k6) | fail)
          go_roundg go
          case rel => exact ⟨i + 1, last, e + 1, _, by go_num, rfl, by go_num, by omega, by omega, HN.out.begin, A6⟩
          case measure => omega
        · by_cases c47 : xw = 4 ∨ xw = 5 ∨ xw = 6 ∨ xw = 7
          · clear y8
            have KC : Hid (∀ w' : World, Below W.heap.size W w' → w'.cell? ⟨wr.heap.size, 1, none⟩ = some (.int .i64 mk)) := hide (fun w' hb => (HBX.out.below hb).cellAt 1)
            by_cases k6 : mk = 6
            · rcases c47 with rfl | rfl | rfl | rfl
              all_goals
                subst k6
                go_wp2_with (first | (go_at_call 17; refine (Under_any HA2.out.x).mono ?_; rintro r w5 ⟨rfl, rfl⟩) | (go_at_call 21; refine (Durable_any HA2.out.x).mono ?_; rintro r w5 ⟨rfl, rfl⟩) | fail)
                refine wp_region_M (S := fun w' => w'.cell? ⟨wr.heap.size, 1, none⟩ = some (.int .i64 6)) (late := []) (by kernel_rfl) (KC.out _ (Below.refl _ _).drew) (fun hHeld => ?_)
                (try simp only [List.size_toArray, List.length_cons, List.length_nil, Nat.zero_add, Nat.reduceAdd, Array.replicate, List.replicate])
                refine wpAnyM_take (i := 0) (oi := ⟨_, _, _, _, _, _⟩) (v := ?_) rfl (by kernel_rfl) (by kernel_rfl) (by kernel_rfl) (by kernel_rfl) (fun _ _ _ h => h) (Or.inl ⟨by rfl, ?_⟩) hHeld ?_
                rotate_left
                · (intro w' hSw; (try dsimp only at hSw); go_simp; try (with_reducible rfl))
                (try simp only [Act.put, List.setIfInBounds_toArray, List.set_cons_zero, List.set_cons_succ])
                refine wpAnyM_take (i := 1) (oi := ⟨_, _, _, _, _, _⟩) (v := ?_) rfl (by kernel_rfl) (by kernel_rfl) (by kernel_rfl) (by kernel_rfl) (fun _ _ _ h => h) (Or.inl ⟨by rfl, ?_⟩) hHeld ?_
                rotate_left
                · (intro w' hSw; (try dsimp only at hSw); go_simp; try (with_reducible rfl))
                (try simp only [Act.put, List.setIfInBounds_toArray, List.set_cons_zero, List.set_cons_succ])
                refine wpAnyM_take (i := 2) (oi := ⟨_, _, _, _, _, _⟩) (v := ?_) rfl (by kernel_rfl) (by kernel_rfl) (by kernel_rfl) (by kernel_rfl) (fun _ _ _ h => h) (Or.inl ⟨by rfl, ?_⟩) hHeld ?_
                rotate_left
                · (intro w' hSw; (try dsimp only at hSw); go_simp; try (with_reducible rfl))
                (try simp only [Act.put, List.setIfInBounds_toArray, List.set_cons_zero, List.set_cons_succ])
                refine wpAnyM_take (i := 3) (oi := ⟨_, _, _, _, _, _⟩) (v := ?_) rfl (by kernel_rfl) (by kernel_rfl) (by kernel_rfl) (by kernel_rfl) (fun _ _ _ h => h) (Or.inl ⟨by rfl, ?_⟩) hHeld ?_
                rotate_left
                · (intro w' hSw; (try dsimp only at hSw); go_simp; try (with_reducible rfl))
                (try simp only [Act.put, List.setIfInBounds_toArray, List.set_cons_zero, List.set_cons_succ])
                refine wpAnyM_take (i := 4) (oi := ⟨_, _, _, _, _, _⟩) (v := ?_) rfl (by kernel_rfl) (by kernel_rfl) (by kernel_rfl) (by kernel_rfl) (fun _ _ _ h => h) (Or.inl ⟨by rfl, ?_⟩) hHeld ?_
                rotate_left
                · (intro w' hSw; (try dsimp only at hSw); go_simp; try (with_reducible rfl))
                (try simp only [Act.put, List.setIfInBounds_toArray, List.set_cons_zero, List.set_cons_succ])
                refine wpAnyM_take (i := 6) (oi := ⟨_, _, _, _, _, _⟩) (v := ?_) rfl (by kernel_rfl) (by kernel_rfl) (by kernel_rfl) (by kernel_rfl) (fun _ _ _ h => h) (Or.inl ⟨by rfl, ?_⟩) hHeld ?_
                rotate_left
                · (intro w' hSw; (try dsimp only at hSw); go_simp; try (with_reducible rfl))
                (try simp only [Act.put, List.setIfInBounds_toArray, List.set_cons_zero, List.set_cons_succ])
                refine wpAnyM_one (i := 5) (o := ⟨_, _, _, _, _, _⟩) (by kernel_rfl) rfl (fun K hK => ?_)
                go_simp
                go_at_call 20
                refine (Epoch_any HA2.out.x.cp.drew.x).mono ?_
                rintro e w5 ⟨rfl, rfl⟩
                refine hK.out _ _ (hHeld) (fun hHeld => ?_)
                clear hK K
                (try simp only [List.setIfInBounds_toArray, List.set_cons_zero, List.set_cons_succ])
                refine wpAnyM_take (i := 7) (oi := ⟨_, _, _, _, _, _⟩) (v := ?_) rfl (by kernel_rfl) (by kernel_rfl) (by kernel_rfl) (by kernel_rfl) (fun _ _ _ h => h) (Or.inl ⟨by rfl, ?_⟩) hHeld ?_
                rotate_left
                · (intro w' hSw; (try dsimp only at hSw); go_simp; try (with_reducible rfl))
                (try simp only [Act.put, List.setIfInBounds_toArray, List.set_cons_zero, List.set_cons_succ])
                refine wpAnyM_one (i := 8) (o := ⟨_, _, _, _, _, _⟩) (by kernel_rfl) rfl (fun K hK => ?_)
                go_simp
                go_at_call 16
                refine ((HA2.out.below (Below.refl _ _).drew).takeB ⟨6, s.ep, s.du, 0⟩ (show In64 0 by unfold In64; omega) (HBX.out.below (Below.refl _ _).drew) HNE.out).mono ?_
                rintro e w6 ⟨rfl, k6, b6⟩
                have A6 := hide k6
                clear k6
                refine hK.out _ _ (b6.cellAt 1) (fun hHeld => ?_)
                clear hK K
                (try simp only [List.setIfInBounds_toArray, List.set_cons_zero, List.set_cons_succ])
                refine wpAnyM_done (by kernel_rfl) ?_ _
                clear hHeld
                go_wp2_with fail
                go_roundg go
                case rel => exact ⟨i + 1, last, e, _, by go_num, rfl, rfl, by omega, by omega, HN.out.take _, A6⟩
                case measure => omega
            · rcases c47 with rfl | rfl | rfl | rfl
              all_goals
                go_wp2_with (first | (go_at_call 17; refine (Under_any HA2.out.x).mono ?_; rintro r w5 ⟨rfl, rfl⟩) | (go_at_call 21; refine (Durable_any HA2.out.x).mono ?_; rintro r w5 ⟨rfl, rfl⟩) | fail)
                refine wp_region_M (S := fun w' => w'.cell? ⟨wr.heap.size, 1, none⟩ = some (.int .i64 mk)) (late := []) (by kernel_rfl) (KC.out _ (Below.refl _ _).drew) (fun hHeld => ?_)
                (try simp only [List.size_toArray, List.length_cons, List.length_nil, Nat.zero_add, Nat.reduceAdd, Array.replicate, List.replicate])
                refine wpAnyM_take (i := 0) (oi := ⟨_, _, _, _, _, _⟩) (v := ?_) rfl (by kernel_rfl) (by kernel_rfl) (by kernel_rfl) (by kernel_rfl) (fun _ _ _ h => h) (Or.inl ⟨by rfl, ?_⟩) hHeld ?_
                rotate_left
                · (intro w' hSw; (try dsimp only at hSw); go_simp; try (with_reducible rfl))
                (try simp only [Act.put, List.setIfInBounds_toArray, List.set_cons_zero, List.set_cons_succ])
                refine wpAnyM_take (i := 1) (oi := ⟨_, _, _, _, _, _⟩) (v := ?_) rfl (by kernel_rfl) (by kernel_rfl) (by kernel_rfl) (by kernel_rfl) (fun _ _ _ h => h) (Or.inl ⟨by rfl, ?_⟩) hHeld ?_
                rotate_left
                · (intro w' hSw; (try dsimp only at hSw); go_simp; try (with_reducible rfl))
                (try simp only [Act.put, List.setIfInBounds_toArray, List.set_cons_zero, List.set_cons_succ])
                refine wpAnyM_take (i := 2) (oi := ⟨_, _, _, _, _, _⟩) (v := ?_) rfl (by kernel_rfl) (by kernel_rfl) (by kernel_rfl) (by kernel_rfl) (fun _ _ _ h => h) (Or.inl ⟨by rfl, ?_⟩) hHeld ?_
                rotate_left
                · (intro w' hSw; (try dsimp only at hSw); go_simp; try (with_reducible rfl))
                (try simp only [Act.put, List.setIfInBounds_toArray, List.set_cons_zero, List.set_cons_succ])
                refine wpAnyM_take (i := 3) (oi := ⟨_, _, _, _, _, _⟩) (v := ?_) rfl (by kernel_rfl) (by kernel_rfl) (by kernel_rfl) (by kernel_rfl) (fun _ _ _ h => h) (Or.inl ⟨by rfl, ?_⟩) hHeld ?_
                rotate_left
                · (intro w' hSw; (try dsimp only at hSw); go_simp; try (with_reducible rfl))
                (try simp only [Act.put, List.setIfInBounds_toArray, List.set_cons_zero, List.set_cons_succ])
                refine wpAnyM_take (i := 4) (oi := ⟨_, _, _, _, _, _⟩) (v := ?_) rfl (by kernel_rfl) (by kernel_rfl) (by kernel_rfl) (by kernel_rfl) (fun _ _ _ h => h) (Or.inl ⟨by rfl, ?_⟩) hHeld ?_
                rotate_left
                · (intro w' hSw; (try dsimp only at hSw); go_simp; try (with_reducible rfl))
                (try simp only [Act.put, List.setIfInBounds_toArray, List.set_cons_zero, List.set_cons_succ])
                refine wpAnyM_take (i := 6) (oi := ⟨_, _, _, _, _, _⟩) (v := ?_) rfl (by kernel_rfl) (by kernel_rfl) (by kernel_rfl) (by kernel_rfl) (fun _ _ _ h => h) (Or.inl ⟨by rfl, ?_⟩) hHeld ?_
                rotate_left
                · (intro w' hSw; (try dsimp only at hSw); go_simp; try (with_reducible rfl))
                (try simp only [Act.put, List.setIfInBounds_toArray, List.set_cons_zero, List.set_cons_succ])
                refine wpAnyM_one (i := 5) (o := ⟨_, _, _, _, _, _⟩) (by kernel_rfl) rfl (fun K hK => ?_)
                go_simp
                go_at_call 20
                refine (Epoch_any HA2.out.x.cp.drew.x).mono ?_
                rintro e w5 ⟨rfl, rfl⟩
                refine hK.out _ _ (hHeld) (fun hHeld => ?_)
                clear hK K
                (try simp only [List.setIfInBounds_toArray, List.set_cons_zero, List.set_cons_succ])
                refine wpAnyM_take (i := 7) (oi := ⟨_, _, _, _, _, _⟩) (v := ?_) rfl (by kernel_rfl) (by kernel_rfl) (by kernel_rfl) (by kernel_rfl) (fun _ _ _ h => h) (Or.inl ⟨by rfl, ?_⟩) hHeld ?_
                rotate_left
                · (intro w' hSw; (try dsimp only at hSw); go_simp; try (with_reducible rfl))
                (try simp only [Act.put, List.setIfInBounds_toArray, List.set_cons_zero, List.set_cons_succ])
                refine wpAnyM_one (i := 8) (o := ⟨_, _, _, _, _, _⟩) (by kernel_rfl) rfl (fun K hK => ?_)
                go_simp
                go_at_call 16
                refine ((HA2.out.below (Below.refl _ _).drew).takeB ⟨mk, s.ep, s.un, 0⟩ (show In64 0 by unfold In64; omega) (HBX.out.below (Below.refl _ _).drew) HNE.out).mono ?_
                rintro e w6 ⟨rfl, k6, b6⟩
                have A6 := hide k6
                clear k6
                refine hK.out _ _ (b6.cellAt 1) (fun hHeld => ?_)
                clear hK K
                (try simp only [List.setIfInBounds_toArray, List.set_cons_zero, List.set_cons_succ])
                refine wpAnyM_done (by kernel_rfl) ?_ _
                clear hHeld
                go_wp2_with fail
                go_roundg go
                case rel => exact ⟨i + 1, last, e, _, by go_num, rfl, rfl, by omega, by omega, HN.out.take _, A6⟩
                case measure => omega
          · obtain ⟨c4, c5, c6, c7⟩ : (¬ xw = 4) ∧ (¬ xw = 5) ∧ (¬ xw = 6) ∧ (¬ xw = 7) := ⟨fun e => c47 (.inl e), fun e => c47 (.inr (.inl e)), fun e => c47 (.inr (.inr (.inl e))), fun e => c47 (.inr (.inr (.inr e)))⟩
            clear y1 y8 c47
            go_wp2_with (first | (go_at_call 17; refine (Under_any HA2.out.x).mono ?_; rintro r w5 ⟨rfl, rfl⟩) | (go_at_call 15; refine (HA2.out.tick (HN.out.ok (by omega)) rfl rfl).mono ?_; rintro r w6 ⟨u6, rfl, k6⟩; obtain ⟨g6, cp6, rfl⟩ := k6.shp (List.mem_cons_self ..); have A6 := hide k6; clear k6) | fail)
            clear c4 c5 c6 c7
            have HOUT : Hid (∀ (k' : Nat) (m : Ct), (cTickO s)[k']? = some m → m.kind = 1 → m.n = (cTickS s).un ∧ k' + 1 = (cTickO s).length ∧ ((cTickS s).un ≠ s.un → (cTickS s).un = s.gr + 1 ∧ (cTickS s).gr = s.gr + 1)) := hide (fun k' m h1 h2 => tick_out HN.out.t h1 h2)
            have HN2 := hide HN.out.tick
            have HL0 := hide HN.out.l
            have HGR : Hid (s.gr ≤ (cTickS s).gr ∧ s.gr ≤ 1000) := hide ⟨by
              unfold cTickS
              split
              · exact Nat.le_refl _
              · split
                · exact Nat.le_refl _
                · rcases (move_num { s with ti := s.ti + 1 }).1 with ⟨a, _⟩ | ⟨a, _⟩ <;> · simp only at a; omega, by have := HN.out.g; omega⟩
            have ho6 : (cTickO s).length ≤ 140737488355328 := by
              have := tickO_len s
              have := HA2.out.x.ts.tl
              have := A6.out.x.ts.tl
              have := A6.out.x.ts.sl
              omega
            clear HA2 HN
            generalize cTickO s = o at *
            generalize cTickS s = s2 at *
            go_loopg [8, 15] (o.length + 1) (fun gh lv kv wq => ∃ (k' last' : Nat), lv = .int .u64 (last' : Int) ∧ kv = .int .i64 (k' : Int) ∧ k' ≤ o.length ∧ o.length + 1 ≤ gh + k' ∧ Hid (last' ≤ s2.gr ∧ (k' < o.length → last' ≤ s.gr)) ∧ Hid (KX w wq k P s2 [(.slice g6 o.length cp6, o)]))
            case atStart => exact ⟨0, last, rfl, rfl, by omega, by omega, (show _ ∧ _ from ⟨Nat.le_trans HL0.out HGR.out.1, fun _ => HL0.out⟩), A6⟩
            case round =>
              clear A6
              obtain ⟨k', last', rfl, rfl, hk', hg2, HLL, HA7⟩ := hrel
              obtain ⟨go2, rfl⟩ : ∃ go2, gk = go2 + 1 := ⟨gk - 1, by omega⟩
              by_cases hkl : k' < o.length
              · obtain ⟨m, hm⟩ := get_of_lt hkl
                have bk : (k' : Int) < (o.length : Int) := by omega
                obtain ⟨g, cq, hsl⟩ := HA7.out.slc (List.mem_cons_self ..) (by omega)
                cases hsl
                obtain ⟨v0, v1, v2, v3⟩ := HA7.out.cell (List.mem_cons_self ..) hm
                have HO := hide (HOUT.out k' m hm)
                obtain ⟨mk2, me2, mn2, mt2⟩ := m
                simp only at v0 v1 v2 v3 HO
                have hll := HLL.out.2 hkl
                have hgr := HGR.out.2
                clear hm
                by_cases c1 : mk2 = 1
                · subst c1
                  obtain ⟨p1, p2, p3⟩ := HO.out rfl
                  by_cases c2 : mn2 = s.un
                  · have b2 : (mn2 : Int) = (s.un : Int) := by omega
                    clear HO p1 p2 p3 hll hgr
                    subst c2
                    go_wp2_with fail
                    go_roundg go2
                    case rel => exact ⟨k' + 1, last', rfl, by go_num, by omega, by omega, ⟨HLL.out.1, fun h => HLL.out.2 (by omega)⟩, HA7⟩
                    case measure => omega
                  · have b2 : ¬ ((mn2 : Int) = (s.un : Int)) := by omega
                    have p4 := p3 (by omega)
                    have b3 : ¬ ((mn2 : Int) ≤ (last' : Int)) := by omega
                    have HP : Hid (mn2 ≤ s2.gr ∧ k' + 1 = o.length) := hide ⟨by omega, p2⟩
                    clear HO p1 p2 p3 p4 hll hgr c2
                    go_wp2_with fail
                    go_roundg go2
                    case rel => exact ⟨k' + 1, mn2, rfl, by go_num, by omega, by omega, ⟨HP.out.1, fun h => by have := HP.out.2; omega⟩, HA7⟩
                    case measure => omega
                · clear HO hll hgr
                  go_wp2_with fail
                  go_roundg go2
                  case rel => exact ⟨k' + 1, last', rfl, by go_num, by omega, by omega, ⟨HLL.out.1, fun h => HLL.out.2 (by omega)⟩, HA7⟩
                  case measure => omega
              · have bk : ¬ (k' : Int) < (o.length : Int) := by omega
                go_wp2_with fail
                go_roundg go
                case rel => exact ⟨i + 1, last', e, s2, by go_num, rfl, rfl, by omega, by omega, HN2.out.last HLL.out.1, HA7.out.drop⟩
                case measure => omega
    · obtain rfl : i = l.length := by omega
      have bt : ¬ ((l.length : Nat) : Int) < (l.length : Int) := by omega
      go_wp2_with fail
      go_ret
      exact ⟨rfl, HA.out.b⟩

end Go.Proofs.Ytgjjacljjlhnhaa

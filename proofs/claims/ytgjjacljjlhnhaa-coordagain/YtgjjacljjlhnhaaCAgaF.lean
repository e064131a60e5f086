/-
  CoordAgain: its closures.
-/
import Derived.Test.YtgjjacljjlhnhaaCBegP
import Derived.Test.YtgjjacljjlhnhaaCOpen
namespace Go.Proofs.Ytgjjacljjlhnhaa
open Go.RowKit

theorem BoxT.cell0 {t : TypeId} {w : World} {k : Nat} {c0 : Value} (h : BoxT t w k #[c0]) : w.cell? ⟨k, 0, none⟩ = some c0 := h.cellAt 0
theorem seg_u8 {B : Nat} {w : World} {ao : Option Addr} {n cap : Nat} {xs : List Nat} (h : LSeg 1 u8cs B w (.slice ao n cap) xs) {t : Nat} {x : Nat} (hx : xs[t]? = some x) : ∃ b o, ao = some ⟨b, o, none⟩ ∧ b < B ∧ w.cell? ⟨b, o + t, none⟩ = some (.int .u8 (x : Int)) := by
  obtain ⟨b, o, e, hb, _, d⟩ := h.readAt hx
  exact ⟨b, o, e, hb, by simpa using d 0 _ rfl⟩
/-- What the closure next leaves. -/
def NxP (w : World) (A at_ n m : Nat) (e : Ending) (w' : World) : Prop := ∃ k at' : Nat, k < n ∧ at' ≤ m ∧ e = .returned (.int .i64 (k : Int)) ∧ ((w' = w ∧ at' = at_) ∨ w' = w.setCell ⟨A, 0, none⟩ (.int .i64 (at' : Int)))
set_option maxHeartbeats 4000000 in
set_option maxRecDepth 100000 in
theorem next_any {w : World} {A O : Nat} {at_ : Nat} {oa : Option Addr} {oc B : Nat} {bs : List Nat} (ha : BoxT 3 w A #[.int .i64 (at_ : Int)]) (ho : BoxT 22 w O #[.slice oa bs.length oc]) (hs : LSeg 1 u8cs B w (.slice oa bs.length oc) bs) (hb : ∀ x ∈ bs, x < 256) (hl : bs.length ≤ 60) (hat : at_ ≤ bs.length) (hBA : B ≤ A) (la : Option Addr) (lc : Nat) {n : Nat} (hn : 1 ≤ n) (hn2 : n ≤ 1000) :
    Calls Try.prog 11 #[.slice la n lc, .pointer (some ⟨A, 0, none⟩), .pointer (some ⟨O, 0, none⟩)] w fun e w' => NxP w A at_ n bs.length e w' := by
  have z0 := ha.cell0
  have y0 := ho.cell0
  have zf := ha.free
  have hAO : ¬ A = O := BoxT.ne ha ho (by decide)
  by_cases hlt : at_ < bs.length
  · have bt : (at_ : Int) < (bs.length : Int) := by omega
    obtain ⟨x, hx⟩ := get_of_lt hlt
    have hx2 := hb x (List.mem_of_getElem? hx)
    obtain ⟨sb, so, rfl, slt, e0⟩ := seg_u8 hs hx
    have hsA : ¬ A = sb := by omega
    have HAT : Hid (at_ + 1 ≤ bs.length) := hide (by omega)
    have hn0 : ¬ (n : Int) = 0 := by omega
    have HK : Hid (x % n < n) := hide (Nat.mod_lt _ (by omega))
    clear ha ho hs hb hat hx slt
    go_enter Try.func11, Try.ntmps11
    go_wp2_with fail
    go_ret
    exact ⟨x % n, at_ + 1, HK.out, HAT.out, (show Ending.returned (.int .i64 ((x : Int) % (n : Int))) = _ by rw [Int.natCast_emod]), .inr rfl⟩
  · have bt : ¬ (at_ : Int) < (bs.length : Int) := by omega
    have HN := hide hn
    have HAT := hide hat
    clear ha ho hs hb hlt hat
    go_enter Try.func11, Try.ntmps11
    go_wp2_with fail
    go_ret
    exact ⟨0, at_, by have := HN.out; omega, HAT.out, rfl, .inl ⟨rfl, rfl⟩⟩
theorem tell_get3 {kd : Int} {e n : Nat} {l : List Int} {k : Nat} {m : Ct} (h : (tellL kd e n l)[k]? = some m) : ∃ x, l[k]? = some x ∧ m = ⟨kd, e, n, x⟩ := by
  unfold tellL at h
  rw [List.getElem?_map] at h
  cases hl : l[k]? with
  | none => rw [hl] at h; cases h
  | some x =>
    rw [hl] at h
    exact ⟨x, rfl, (Option.some.inj h).symm⟩
/-- Those of a kind. -/
def kof (o : List Ct) (kd : Int) : List Ct := o.filter fun m => m.kind == kd
theorem kof_take {o : List Ct} {i : Nat} {m : Ct} (h : o[i]? = some m) (kd : Int) : kof (o.take (i + 1)) kd = if m.kind == kd then kof (o.take i) kd ++ [m] else kof (o.take i) kd := by
  unfold kof
  rw [take_snoc h, List.filter_append]
  cases hp : m.kind == kd <;> simp [hp]
theorem kof_at {o : List Ct} {i : Nat} {m : Ct} (h : o[i]? = some m) {kd : Int} (hk : m.kind = kd) : (kof o kd)[(kof (o.take i) kd).length]? = some m := by
  have e : o = o.take i ++ m :: o.drop (i + 1) := by
    have := List.take_append_drop i o
    rw [← drop_at h, this]
  have e2 : kof o kd = kof (o.take i) kd ++ m :: kof (o.drop (i + 1)) kd := by
    conv => lhs; rw [e]
    unfold kof
    rw [List.filter_append, List.filter_cons]
    simp [hk]
  rw [e2]
  simp
theorem kof_len (o : List Ct) (kd : Int) (i : Nat) : (kof (o.take i) kd).length ≤ i := by
  have h1 : (kof (o.take i) kd).length ≤ (o.take i).length := List.length_filter_le _ _
  rw [List.length_take] at h1
  omega
set_option maxHeartbeats 4000000 in
set_option maxRecDepth 100000 in
theorem told_any {w : World} {b1 B : Nat} {u lv : Value} {o : List Ct} {left : List Int} (h1 : OwnL 32 4 Ct.cs b1 w u o) (h2 : LSeg 1 i64cs B w lv left) (hB : B ≤ w.heap.size) (ho : o.length ≤ 2000000) (hl : left.length ≤ 1000000) (kd : Int) (n : Nat) (heq : kof o kd = tellL kd 3 n left) :
    Calls Try.prog 12 #[u, .int .i64 kd, .int .u64 (n : Int), lv] w fun e w' => e = .returned (.bool true) ∧ Below w.heap.size w w' := by
  obtain ⟨g1, c1, rfl⟩ := h1.shape
  obtain ⟨g2, c2, rfl⟩ := h2.shapeOf
  have H1 := hide h1
  have H2 := hide (h2.mono hB)
  have HE := hide heq
  clear h1 h2 heq
  go_enter Try.func12, Try.ntmps12
  go_wp2_with fail
  go_loopg [9, 10] (o.length + 1) (fun gh kv iv wr => ∃ i : Nat, iv = .int .i64 (i : Int) ∧ kv = .int .i64 ((kof (o.take i) kd).length : Int) ∧ i ≤ o.length ∧ o.length + 1 ≤ gh + i ∧ Hid (Below w.heap.size w wr))
  case atStart => exact ⟨0, rfl, rfl, by omega, by omega, Below.refl _ _⟩
  case round =>
    obtain ⟨i, rfl, rfl, hi, hg, HB⟩ := hrel
    obtain ⟨go, rfl⟩ : ∃ go, gk = go + 1 := ⟨gk - 1, by omega⟩
    by_cases hlt : i < o.length
    · have bt : (i : Int) < (o.length : Int) := by omega
      obtain ⟨m, hm⟩ := get_of_lt hlt
      obtain ⟨g, cc, e, x0, x1, x2, x3⟩ := Ct.read (H1.out.below HB.out) hm
      cases e
      have HT := hide (kof_take hm kd)
      have hkl := kof_len o kd i
      by_cases hk : m.kind = kd
      · have hat := kof_at hm hk
        rw [HE.out] at hat
        obtain ⟨x, hx, rfl⟩ := tell_get3 hat
        have hklt := lt_of_get hx
        obtain ⟨nb, no, rfl, nlt, e0⟩ := seg_int (H2.out.below HB.out) hx
        simp only at x0 x1 x2 x3
        have HK : Hid (kof (o.take (i + 1)) kd = kof (o.take i) kd ++ [⟨kd, 3, n, x⟩]) := hide (by rw [HT.out]; simp)
        obtain ⟨K, hK⟩ : ∃ K, (kof (o.take i) kd).length = K := ⟨_, rfl⟩
        rw [hK] at hklt e0 hkl
        rw [hK]
        have HKK : Hid ((kof (o.take (i + 1)) kd).length = K + 1) := hide (by rw [HK.out, List.length_append, hK]; rfl)
        have bk : (K : Int) < (left.length : Int) := by omega
        clear hm hat hx HT HK hK hk
        go_wp2_with fail
        go_quiet (fail)
        go_wp2_with fail
        go_roundg go
        case rel => exact ⟨i + 1, by go_num, by rw [HKK.out]; go_num, by omega, by omega, below_drewN HB.out _⟩
        case measure => omega
      · have bk : (m.kind != kd) = true := by simp; exact hk
        have HK : Hid ((kof (o.take (i + 1)) kd).length = (kof (o.take i) kd).length) := hide (by rw [HT.out]; simp [hk])
        obtain ⟨mk, me, mn, mt⟩ := m
        simp only at x0 x1 x2 x3 bk
        clear hm hk HT
        go_wp2_with fail
        go_roundg go
        case rel => exact ⟨i + 1, by go_num, by rw [HK.out], by omega, by omega, HB⟩
        case measure => omega
    · obtain rfl : i = o.length := by omega
      have bt : ¬ ((o.length : Nat) : Int) < (o.length : Int) := by omega
      have e1 : (kof (o.take o.length) kd).length = left.length := by
        rw [List.take_of_length_le (Nat.le_refl _), HE.out]
        unfold tellL
        exact List.length_map ..
      rw [e1]
      clear e1
      go_wp2_with fail
      go_ret
      exact ⟨by simp, HB.out⟩
/-- A slice's head and tail. -/
theorem own_cut {w : World} {v : Value} {base : Nat} {l : List Int} (h : OwnL 3 1 i64cs base w v l) {k : Nat} (hk : k < l.length) (hl : l.length ≤ 1000) : ∃ g cap, v = .slice (some ⟨g, 0, none⟩) l.length cap ∧ l.length ≤ cap ∧ LSeg 1 i64cs w.heap.size w (.slice (some ⟨g, 0, none⟩) k cap) (l.take k) ∧ (∀ q, LSeg 1 i64cs w.heap.size w (.slice (some ⟨g, k + 1, none⟩) (l.length - (k + 1)) q) (l.drop (k + 1))) ∧ (l.length = k + 1 → ∀ a q, LSeg 1 i64cs w.heap.size w (.slice a 0 q) (l.drop (k + 1))) := by
  rcases h.2 with ⟨rfl, h0⟩ | ⟨g, cap, cur, rfl, h2, h3, h4, h5, h6, h7⟩
  · omega
  · have hb : BoxT 3 w g cur := h3
    have key : ∀ (i : Nat) (z : Int), l[i]? = some z → w.cell? ⟨g, i, none⟩ = some (.int .i64 z) := fun i z hi => by
      have h8 := flat_get i64cs_len l i 0 z _ hi (rfl : (i64cs z)[0]? = some (.int .i64 z))
      rw [← h7, List.getElem?_take] at h8
      split at h8
      · rw [hb.cellAt]; simpa using h8
      · cases h8
    refine ⟨g, cap, rfl, h4, ⟨_, _, by rw [List.length_take, Nat.min_eq_left (by omega)], ?_, .inr ⟨g, 0, rfl, hb.lt, fun i z hi j u hu => ?_⟩⟩, fun q => ⟨_, _, by rw [List.length_drop], ?_, .inr ⟨g, k + 1, rfl, hb.lt, fun i z hi j u hu => ?_⟩⟩, fun he a q => ⟨a, q, ?_, ?_, .inl ?_⟩⟩
    · rw [List.length_take]; omega
    · match j, hu with
      | 0, hu =>
        have : Value.int .i64 z = u := by simpa [i64cs] using hu
        subst this
        rw [List.getElem?_take] at hi
        split at hi
        · rw [show 0 + i * 1 + 0 = i by omega]; exact key i z hi
        · cases hi
      | j + 1, hu => simp [i64cs] at hu
    · rw [List.length_drop]; omega
    · match j, hu with
      | 0, hu =>
        have : Value.int .i64 z = u := by simpa [i64cs] using hu
        subst this
        rw [List.getElem?_drop] at hi
        rw [show k + 1 + i * 1 + 0 = k + 1 + i by omega]
        exact key _ z hi
      | j + 1, hu => simp [i64cs] at hu
    · have : (l.drop (k + 1)).length = 0 := by rw [List.length_drop]; omega
      rw [this]
    · rw [List.length_drop]; omega
    · exact List.length_eq_zero_iff.1 (by rw [List.length_drop]; omega)
set_option maxHeartbeats 4000000 in
set_option maxRecDepth 100000 in
theorem drop_any {w : World} {b1 : Nat} {v : Value} {left : List Int} (h1 : OwnL 3 1 i64cs b1 w v left) {k : Nat} (hk : k < left.length) (hl : left.length ≤ 1000) :
    Calls Try.prog 13 #[v, .int .i64 (k : Int)] w fun e w' => ∃ u, e = .returned u ∧ OwnL 3 1 i64cs w.heap.size w' u (left.take k ++ left.drop (k + 1)) ∧ Below w.heap.size w w' := by
  obtain ⟨g, cap, rfl, hcap, s1, s2, s3⟩ := own_cut h1 hk hl
  have bk0 : (k : Int) < (left.length : Int) := by omega
  have bk1 : k + 1 ≤ left.length := hk
  have hkc : k ≤ cap := by omega
  have hw : IntKind.i64.wrap ((k : Int) + 1) = (k : Int) + 1 := by simp [IntKind.wrap, IntKind.bits, IntKind.signed]; omega
  have htn : ((k : Int) + 1).toNat = k + 1 := by omega
  have bk2 : (k : Int) ≤ (k : Int) + 1 := by omega
  have bk3 : 0 ≤ (k : Int) + 1 := by omega
  have bk5 : (k : Int) + 1 ≤ (left.length : Int) := by omega
  have S1 := hide s1
  have HL3 : Hid ((left.take k).length + (left.drop (k + 1)).length ≤ 1000) := hide (by rw [List.length_take, List.length_drop]; omega)
  clear h1 s1
  by_cases hce : cap = k + 1
  · have hle : left.length = k + 1 := by omega
    have S2 := hide (s3 hle)
    clear s2 s3 hcap
    generalize left.length = n at *
    subst hce hle
    go_enter Try.func13, Try.ntmps13
    go_wp2_with fail
    refine wp_region_M (S := fun _ => True) (late := []) (by kernel_rfl) trivial (fun hHeld => ?_)
    (try simp only [List.size_toArray, List.length_cons, List.length_nil, Nat.zero_add, Nat.reduceAdd, Array.replicate, List.replicate])
    refine wpAnyM_take (i := 0) (oi := ⟨_, _, _, _, _, _⟩) (v := ?_) rfl (by kernel_rfl) (by kernel_rfl) (by kernel_rfl) (by kernel_rfl) (fun _ _ _ h => h) (Or.inl ⟨by rfl, ?_⟩) hHeld ?_
    rotate_left
    · (intro w' hSw; (try dsimp only at hSw); go_simp; try (with_reducible rfl))
    (try simp only [Act.put, List.setIfInBounds_toArray, List.set_cons_zero, List.set_cons_succ])
    refine wpAnyM_take (i := 1) (oi := ⟨_, _, _, _, _, _⟩) (v := ?_) rfl (by kernel_rfl) (by kernel_rfl) (by kernel_rfl) (by kernel_rfl) (fun _ _ _ h => h) (Or.inl ⟨by rfl, ?_⟩) hHeld ?_
    rotate_left
    · (intro w' hSw; (try dsimp only at hSw); go_simp; try (with_reducible rfl))
    (try simp only [Act.put, List.setIfInBounds_toArray, List.set_cons_zero, List.set_cons_succ])
    refine wpAnyM_take (i := 2) (oi := ⟨_, _, _, _, _, _⟩) (v := ?_) rfl (by kernel_rfl) (by kernel_rfl) (by kernel_rfl) (by kernel_rfl) (fun _ _ _ h => h) (Or.inl ⟨by rfl, ?_⟩) hHeld ?_
    rotate_left
    · (intro w' hSw; (try dsimp only at hSw); go_simp; try (with_reducible rfl))
    (try simp only [Act.put, List.setIfInBounds_toArray, List.set_cons_zero, List.set_cons_succ])
    refine wpAnyM_take (i := 4) (oi := ⟨_, _, _, _, _, _⟩) (v := ?_) rfl (by kernel_rfl) (by kernel_rfl) (by kernel_rfl) (by kernel_rfl) (fun _ _ _ h => h) (Or.inl ⟨by rfl, ?_⟩) hHeld ?_
    rotate_left
    · (intro w' hSw; (try dsimp only at hSw); go_simp; try (with_reducible rfl))
    (try simp only [Act.put, List.setIfInBounds_toArray, List.set_cons_zero, List.set_cons_succ])
    refine wpAnyM_take (i := 5) (oi := ⟨_, _, _, _, _, _⟩) (v := ?_) rfl (by kernel_rfl) (by kernel_rfl) (by kernel_rfl) (by kernel_rfl) (fun _ _ _ h => h) (Or.inl ⟨by rfl, ?_⟩) hHeld ?_
    rotate_left
    · (intro w' hSw; (try dsimp only at hSw); go_simp; try (with_reducible rfl))
    (try simp only [Act.put, List.setIfInBounds_toArray, List.set_cons_zero, List.set_cons_succ])
    refine wpAnyM_take (i := 6) (oi := ⟨_, _, _, _, _, _⟩) (v := ?_) rfl (by kernel_rfl) (by kernel_rfl) (by kernel_rfl) (by kernel_rfl) (fun _ _ _ h => h) (Or.inl ⟨by rfl, ?_⟩) hHeld ?_
    rotate_left
    · (intro w' hSw; (try dsimp only at hSw); go_simp; try (with_reducible rfl))
    (try simp only [Act.put, List.setIfInBounds_toArray, List.set_cons_zero, List.set_cons_succ])
    refine wpAnyM_take (i := 7) (oi := ⟨_, _, _, _, _, _⟩) (v := ?_) rfl (by kernel_rfl) (by kernel_rfl) (by kernel_rfl) (by kernel_rfl) (fun _ _ _ h => h) (Or.inl ⟨by rfl, ?_⟩) hHeld ?_
    rotate_left
    · (intro w' hSw; (try dsimp only at hSw); go_simp; try (with_reducible rfl))
    (try simp only [Act.put, List.setIfInBounds_toArray, List.set_cons_zero, List.set_cons_succ])
    refine wpAnyM_one (i := 3) (o := ⟨_, _, _, _, _, _⟩) (by kernel_rfl) rfl (fun K hK => ?_)
    (refine step_L Try.infoI Try.underlying25 rfl (by decide) (by decide) i64cs_len i64cs_one rfl _ _ rfl w.heap.size (.slice none 0 0) [] rfl (OwnL.nil _ _ _ _ _) w.heap.size _ (left.take k) rfl (S1.out.below (Below.refl _ _).drew) (by have := HL3.out; simp only [List.length_nil]; omega) (Nat.le_refl _) ?_)
    intro v3 w3 h3 g3 _
    have O3 := hide h3
    have B3 : Hid (Below w.heap.size w w3) := hide ((Below.refl w.heap.size w).drew.grown g3 (Nat.le_refl _) (fun g e => by cases e))
    clear h3 g3
    refine hK.out _ _ (trivial) (fun hHeld => ?_)
    clear hK K
    (try simp only [List.setIfInBounds_toArray, List.set_cons_zero, List.set_cons_succ])
    refine wpAnyM_one (i := 8) (o := ⟨_, _, _, _, _, _⟩) (by kernel_rfl) rfl (fun K hK => ?_)
    (refine step_L Try.infoI Try.underlying25 rfl (by decide) (by decide) i64cs_len i64cs_one rfl _ _ rfl w.heap.size v3 _ rfl O3.out w.heap.size _ (left.drop (k + 1)) rfl ((S2.out _ _).below B3.out) (by have := HL3.out; simp only [List.nil_append]; omega) B3.out.size ?_)
    intro v4 w4 h4 g4 _
    have O4 := hide h4
    have B4 : Hid (Below w.heap.size w w4) := hide (B3.out.grown g4 B3.out.size (fun g e => O3.out.at g e))
    clear h4 g4
    refine hK.out _ _ (trivial) (fun hHeld => ?_)
    clear hK K
    (try simp only [List.setIfInBounds_toArray, List.set_cons_zero, List.set_cons_succ])
    refine wpAnyM_take (i := 9) (oi := ⟨_, _, _, _, _, _⟩) (v := ?_) rfl (by kernel_rfl) (by kernel_rfl) (by kernel_rfl) (by kernel_rfl) (fun _ _ _ h => h) (Or.inl ⟨by rfl, ?_⟩) hHeld ?_
    rotate_left
    · (intro w' hSw; (try dsimp only at hSw); go_simp; try (with_reducible rfl))
    (try simp only [Act.put, List.setIfInBounds_toArray, List.set_cons_zero, List.set_cons_succ])
    refine wpAnyM_done (by kernel_rfl) ?_ _
    clear hHeld
    go_wp2_with fail
    go_ret
    exact ⟨_, rfl, by simpa using O4.out, B4.out⟩
  · have S2 := hide s2
    have hce2 : ¬ (cap = k + 1) := hce
    clear s2 s3
    go_enter Try.func13, Try.ntmps13
    go_wp2_with fail
    refine wp_region_M (S := fun _ => True) (late := []) (by kernel_rfl) trivial (fun hHeld => ?_)
    (try simp only [List.size_toArray, List.length_cons, List.length_nil, Nat.zero_add, Nat.reduceAdd, Array.replicate, List.replicate])
    refine wpAnyM_take (i := 0) (oi := ⟨_, _, _, _, _, _⟩) (v := ?_) rfl (by kernel_rfl) (by kernel_rfl) (by kernel_rfl) (by kernel_rfl) (fun _ _ _ h => h) (Or.inl ⟨by rfl, ?_⟩) hHeld ?_
    rotate_left
    · (intro w' hSw; (try dsimp only at hSw); go_simp; try (with_reducible rfl))
    (try simp only [Act.put, List.setIfInBounds_toArray, List.set_cons_zero, List.set_cons_succ])
    refine wpAnyM_take (i := 1) (oi := ⟨_, _, _, _, _, _⟩) (v := ?_) rfl (by kernel_rfl) (by kernel_rfl) (by kernel_rfl) (by kernel_rfl) (fun _ _ _ h => h) (Or.inl ⟨by rfl, ?_⟩) hHeld ?_
    rotate_left
    · (intro w' hSw; (try dsimp only at hSw); go_simp; try (with_reducible rfl))
    (try simp only [Act.put, List.setIfInBounds_toArray, List.set_cons_zero, List.set_cons_succ])
    refine wpAnyM_take (i := 2) (oi := ⟨_, _, _, _, _, _⟩) (v := ?_) rfl (by kernel_rfl) (by kernel_rfl) (by kernel_rfl) (by kernel_rfl) (fun _ _ _ h => h) (Or.inl ⟨by rfl, ?_⟩) hHeld ?_
    rotate_left
    · (intro w' hSw; (try dsimp only at hSw); go_simp; try (with_reducible rfl))
    (try simp only [Act.put, List.setIfInBounds_toArray, List.set_cons_zero, List.set_cons_succ])
    refine wpAnyM_take (i := 4) (oi := ⟨_, _, _, _, _, _⟩) (v := ?_) rfl (by kernel_rfl) (by kernel_rfl) (by kernel_rfl) (by kernel_rfl) (fun _ _ _ h => h) (Or.inl ⟨by rfl, ?_⟩) hHeld ?_
    rotate_left
    · (intro w' hSw; (try dsimp only at hSw); go_simp; try (with_reducible rfl))
    (try simp only [Act.put, List.setIfInBounds_toArray, List.set_cons_zero, List.set_cons_succ])
    refine wpAnyM_take (i := 5) (oi := ⟨_, _, _, _, _, _⟩) (v := ?_) rfl (by kernel_rfl) (by kernel_rfl) (by kernel_rfl) (by kernel_rfl) (fun _ _ _ h => h) (Or.inl ⟨by rfl, ?_⟩) hHeld ?_
    rotate_left
    · (intro w' hSw; (try dsimp only at hSw); go_simp; try (with_reducible rfl))
    (try simp only [Act.put, List.setIfInBounds_toArray, List.set_cons_zero, List.set_cons_succ])
    refine wpAnyM_take (i := 6) (oi := ⟨_, _, _, _, _, _⟩) (v := ?_) rfl (by kernel_rfl) (by kernel_rfl) (by kernel_rfl) (by kernel_rfl) (fun _ _ _ h => h) (Or.inl ⟨by rfl, ?_⟩) hHeld ?_
    rotate_left
    · (intro w' hSw; (try dsimp only at hSw); go_simp; try (with_reducible rfl))
    (try simp only [Act.put, List.setIfInBounds_toArray, List.set_cons_zero, List.set_cons_succ])
    refine wpAnyM_take (i := 7) (oi := ⟨_, _, _, _, _, _⟩) (v := ?_) rfl (by kernel_rfl) (by kernel_rfl) (by kernel_rfl) (by kernel_rfl) (fun _ _ _ h => h) (Or.inl ⟨by rfl, ?_⟩) hHeld ?_
    rotate_left
    · (intro w' hSw; (try dsimp only at hSw); go_simp; try (with_reducible rfl))
    (try simp only [Act.put, List.setIfInBounds_toArray, List.set_cons_zero, List.set_cons_succ])
    refine wpAnyM_one (i := 3) (o := ⟨_, _, _, _, _, _⟩) (by kernel_rfl) rfl (fun K hK => ?_)
    (refine step_L Try.infoI Try.underlying25 rfl (by decide) (by decide) i64cs_len i64cs_one rfl _ _ rfl w.heap.size (.slice none 0 0) [] rfl (OwnL.nil _ _ _ _ _) w.heap.size _ (left.take k) rfl (S1.out.below (Below.refl _ _).drew) (by have := HL3.out; simp only [List.length_nil]; omega) (Nat.le_refl _) ?_)
    intro v3 w3 h3 g3 _
    have O3 := hide h3
    have B3 : Hid (Below w.heap.size w w3) := hide ((Below.refl w.heap.size w).drew.grown g3 (Nat.le_refl _) (fun g e => by cases e))
    clear h3 g3
    refine hK.out _ _ (trivial) (fun hHeld => ?_)
    clear hK K
    (try simp only [List.setIfInBounds_toArray, List.set_cons_zero, List.set_cons_succ])
    refine wpAnyM_one (i := 8) (o := ⟨_, _, _, _, _, _⟩) (by kernel_rfl) rfl (fun K hK => ?_)
    (refine step_L Try.infoI Try.underlying25 rfl (by decide) (by decide) i64cs_len i64cs_one rfl _ _ rfl w.heap.size v3 _ rfl O3.out w.heap.size _ (left.drop (k + 1)) rfl ((S2.out _).below B3.out) (by have := HL3.out; simp only [List.nil_append]; omega) B3.out.size ?_)
    intro v4 w4 h4 g4 _
    have O4 := hide h4
    have B4 : Hid (Below w.heap.size w w4) := hide (B3.out.grown g4 B3.out.size (fun g e => O3.out.at g e))
    clear h4 g4
    refine hK.out _ _ (trivial) (fun hHeld => ?_)
    clear hK K
    (try simp only [List.setIfInBounds_toArray, List.set_cons_zero, List.set_cons_succ])
    refine wpAnyM_take (i := 9) (oi := ⟨_, _, _, _, _, _⟩) (v := ?_) rfl (by kernel_rfl) (by kernel_rfl) (by kernel_rfl) (by kernel_rfl) (fun _ _ _ h => h) (Or.inl ⟨by rfl, ?_⟩) hHeld ?_
    rotate_left
    · (intro w' hSw; (try dsimp only at hSw); go_simp; try (with_reducible rfl))
    (try simp only [Act.put, List.setIfInBounds_toArray, List.set_cons_zero, List.set_cons_succ])
    refine wpAnyM_done (by kernel_rfl) ?_ _
    clear hHeld
    go_wp2_with fail
    go_ret
    exact ⟨_, rfl, by simpa using O4.out, B4.out⟩

end Go.Proofs.Ytgjjacljjlhnhaa

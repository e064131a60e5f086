/-
  Texts in build order: SBytes, SNum.
-/
import Derived.Test.YtdoldohcimbdaaaGreatM27
/-
  Bytes: panes as bytes.
-/
namespace Go.Proofs.YtdoldohcimbdaaaGreat
open Go.RowKit

/-- The bytes of a number, the highest first. -/
def be : Nat → Nat → List Nat
  | 0, _ => []
  | k + 1, n => n / 2 ^ (8 * k) % 256 :: be k n
theorem be_length (k n : Nat) : (be k n).length = k := by induction k with
  | zero => rfl
  | succ k ih => simp [be, ih]
theorem be_take (size n : Nat) : ∀ k, k < size → (be size n).take (k + 1) = (be size n).take k ++ [n / 2 ^ (8 * (size - 1 - k)) % 256] := by
  induction size with
  | zero => intro k h; omega
  | succ s ih =>
    intro k h
    cases k with
    | zero => simp [be]
    | succ k =>
      have := ih k (by omega)
      simp only [be, List.take_succ_cons, this, List.cons_append]
      rw [show s + 1 - 1 - (k + 1) = s - 1 - k from by omega]
theorem cast_byte (n k : Nat) : (n : Int) / 2 ^ k % 256 = ((n / 2 ^ k % 256 : Nat) : Int) := by
  simp [Int.natCast_ediv, Int.natCast_emod]
def u8cs (x : Nat) : List Value := [.int .u8 (x : Int)]
theorem u8cs_len (x : Nat) : (u8cs x).length = 1 := rfl
theorem u8cs_one (x : Nat) : ∀ u ∈ u8cs x, u.oneCell' = true := by intro u hu; simp [u8cs] at hu; subst hu; rfl
theorem Tryz.infoU8 : (Tryz.prog.info? 5).map (fun i => (i.zero, i.size, i.bytes)) = some (some (.int .u8 0), 1, 1) := by kernel_rfl
theorem new1 (W : World) {n : Nat} (hn : n = W.heap.size) (x : Nat) (j : Nat) (u : Value) (hu : (u8cs x)[j]? = some u) : (W.alloc (.cells #[.int .u8 (x : Int)] 5)).cell? ((⟨n, 0, none⟩ : Addr).add j) = some u := by
  have hb : BoxT 5 _ n _ := BoxT.new_at (t := 5) (w := W) (cs := #[.int .u8 (x : Int)]) hn
  rw [add_plain2, hb.cellAt, Nat.zero_add]
  have hl := lt_of_get hu
  rw [u8cs_len] at hl
  match j, hu with
  | 0, hu => simp [u8cs] at hu; subst hu; rfl
set_option maxHeartbeats 8000000 in
set_option maxRecDepth 100000 in
theorem number_any {base : Nat} {v : Value} {l : List Nat} (size n : Nat) {w : World} (hs : size ≤ 8) (hl : l.length ≤ 900000) (hb : base ≤ w.heap.size) (hown : OwnL 5 1 u8cs base w v l) :
    Calls Tryz.prog 64 #[v, .int .u64 (n : Int), .int .i64 (size : Int)] w fun e w' => ∃ v', e = .returned v' ∧ OwnL 5 1 u8cs base w' v' (l ++ be size n) ∧ Below base w w' := by
  have HO := hide hown
  clear hown
  go_enter Tryz.func64, Tryz.ntmps64
  go_wp2_with fail
  go_loopg [0, 7] (size + 1) (fun gh v i wr => ∃ k : Nat, k ≤ size ∧ size + 1 ≤ gh + k ∧ i = .int .i64 ((size : Int) - 1 - k) ∧ Hid (OwnL 5 1 u8cs base wr v (l ++ (be size n).take k)) ∧ Hid (Below base w wr))
  case atStart => exact ⟨0, Nat.zero_le _, by omega, by simp, (show OwnL _ _ _ _ _ _ _ by simpa using HO.out), Below.refl _ _⟩
  case round =>
    obtain ⟨k, hk, hg, rfl, GO, GB⟩ := hrel
    obtain ⟨go, rfl⟩ : ∃ go, gk = go + 1 := ⟨gk - 1, by omega⟩
    have hkl : ((be size n).take k).length ≤ 8 := by rw [List.length_take, be_length]; omega
    have HSZ : Hid (base ≤ wr.heap.size) := Nat.le_trans hb GB.out.size
    by_cases hlt : k < size
    · have HT := hide (be_take size n k hlt)
      obtain ⟨va, vc, rfl⟩ := GO.out.shape
      have HLL : Hid ((l ++ (be size n).take k).length ≤ 1000000) := (show _ ≤ _ by rw [List.length_append]; omega)
      generalize hX : n / 2 ^ (8 * (size - 1 - k)) % 256 = X at *
      have HX := hide hX
      clear hX hkl
      have HXI : Hid ((n : Int) / 2 ^ (8 * (size - 1 - k)) % 256 = (X : Int)) := (show _ = _ by rw [cast_byte, HX.out])
      generalize hLL : l ++ (be size n).take k = LL at *
      have HLE := hide hLL
      clear hLL
      go_wp2_with (first | (at_builtin; rw [HXI.out]; refine app_L Tryz.infoU8 Tryz.underlying58 rfl (by decide) (by decide) u8cs_len u8cs_one rfl _ _ rfl base _ LL rfl (GO.out.alloc _) ⟨wr.heap.size, 0, none⟩ 1 X rfl (new1 wr rfl X) HLL.out (by have := HSZ.out; simp; omega) ?_; intro v5 w5 h5 g5 k5) | fail)
      go_roundg go
      case rel => exact ⟨k + 1, by omega, by omega, by go_num, (show OwnL _ _ _ _ _ _ _ by rw [HT.out, ← List.append_assoc, HLE.out]; exact h5), ((GB.out.alloc HSZ.out _).grown g5 (by simp; have := HSZ.out; omega) (fun q e => GO.out.at q e))⟩
      case measure => omega
    · obtain rfl : k = size := by omega
      have HF : Hid (l ++ (be k n).take k = l ++ be k n) := (show _ = _ by rw [List.take_of_length_le (by rw [be_length]; omega)])
      obtain ⟨va, vc, rfl⟩ := GO.out.shape
      go_wp2_with fail
      go_ret
      exact ⟨_, rfl, by rw [← HF.out]; exact GO.out, GB.out⟩
def sbe (n : Int) : List Nat := be 8 (IntKind.u64.wrap n).toNat
theorem wrap_nn (n : Int) : ((IntKind.u64.wrap n).toNat : Int) = IntKind.u64.wrap n := by rw [IntKind.wrap_u64]; omega
theorem signed_any {base : Nat} {v : Value} {l : List Nat} (y : Int) {w : World} (hl : l.length ≤ 900000) (hb : base ≤ w.heap.size) (hown : OwnL 5 1 u8cs base w v l) :
    Calls Tryz.prog 64 #[v, .int .u64 (IntKind.u64.wrap y), .int .i64 8] w fun e w' => ∃ v', e = .returned v' ∧ OwnL 5 1 u8cs base w' v' (l ++ sbe y) ∧ Below base w w' := by
  have h := number_any 8 (IntKind.u64.wrap y).toNat (by omega) hl hb hown
  rw [wrap_nn] at h
  exact h
def wb (x : Pn) : List Nat := sbe x.k ++ sbe x.f ++ sbe x.t ++ sbe x.a
def wrB (L : List Pn) : List Nat := be 4 L.length ++ L.flatMap wb
theorem sbe_len (n : Int) : (sbe n).length = 8 := be_length _ _
theorem Tryz.infoI8 : (Tryz.prog.info? 2).map (fun i => (i.zero, i.size, i.bytes)) = some (some (.int .i64 0), 1, 8) := by kernel_rfl
theorem arr_ix (a b c d : Int) (w : World) : (Instr.index 115 (.agg #[.int .i64 a, .int .i64 b, .int .i64 c, .int .i64 d]) (.int .i64 0)).run Tryz.prog w = .ok (.int .i64 a) w ∧ (Instr.index 115 (.agg #[.int .i64 a, .int .i64 b, .int .i64 c, .int .i64 d]) (.int .i64 1)).run Tryz.prog w = .ok (.int .i64 b) w ∧ (Instr.index 115 (.agg #[.int .i64 a, .int .i64 b, .int .i64 c, .int .i64 d]) (.int .i64 2)).run Tryz.prog w = .ok (.int .i64 c) w ∧ (Instr.index 115 (.agg #[.int .i64 a, .int .i64 b, .int .i64 c, .int .i64 d]) (.int .i64 3)).run Tryz.prog w = .ok (.int .i64 d) w := by
  obtain ⟨i0, hi, hz0, hz1, hz2⟩ := info_parts Tryz.infoI8
  refine ⟨?_, ?_, ?_, ?_⟩ <;> simp [Instr.index, asIntOf, run_underlying Tryz.underlying115, sizeOf, typeInfo, hi, hz1, part]
theorem sbe_flat (l : List Int) : (l.flatMap sbe).length = l.length * 8 := by
  induction l with
  | nil => rfl
  | cons x l ih => rw [List.flatMap_cons, List.length_append, ih, sbe_len, List.length_cons]; omega
theorem wb_len (x : Pn) : (wb x).length = 32 := by simp [wb, sbe_len]
theorem flat_wb (L : List Pn) : (L.flatMap wb).length = L.length * 32 := by
  induction L with
  | nil => rfl
  | cons x L ih => rw [List.flatMap_cons, List.length_append, ih, wb_len, List.length_cons]; omega
theorem wrB_len (L : List Pn) : (wrB L).length = 4 + L.length * 32 := by rw [wrB, List.length_append, be_length, flat_wb]
set_option maxHeartbeats 8000000 in
set_option maxRecDepth 100000 in
theorem written_any {w : World} {v : Value} {L : List Pn} (hl : LSeg 4 Pn.cs w.heap.size w v L) (hn : L.length ≤ 20000) :
    Calls Tryz.prog 45 #[v] w fun e w' => ∃ u, e = .returned u ∧ OwnL 5 1 u8cs w.heap.size w' u (wrB L) ∧ Below w.heap.size w w' := by
  obtain ⟨ao, cap, rfl⟩ := hl.shapeOf
  have HL := hide hl
  obtain ⟨i0, hi, hz0, hz1, hz2⟩ := info_parts Tryz.infoU8
  have hmk : ∃ w1, (Instr.makeSlice 58 (.int .i64 0) (.int .i64 (4 + 32 * (L.length : Int)))).run Tryz.prog w = .ok (.slice (some ⟨w.heap.size, 0, none⟩) 0 (4 + 32 * L.length)) w1 ∧ OwnL 5 1 u8cs w.heap.size w1 (.slice (some ⟨w.heap.size, 0, none⟩) 0 (4 + 32 * L.length)) [] ∧ w.grownBy w1 none := by
    obtain ⟨w1, h1, h2, h3⟩ := run_make_own (P := Tryz.prog) (w := w) w.heap.size 58 5 i0 (.int .u8 0) 1 Tryz.underlying58 hi hz0 hz1 .i64 .i64 (4 + 32 * L.length) (by rw [hz2]; omega) (by unfold maxLen; omega) (Nat.le_refl _)
    exact ⟨w1, by rw [show (4 + 32 * (L.length : Int)) = ((4 + 32 * L.length : Nat) : Int) by omega]; exact h1, h2, h3⟩
  obtain ⟨w1, hrun, ho1, hg1⟩ := hmk
  have hb1 : Below w.heap.size w w1 := (Below.refl _ _).grown hg1 (Nat.le_refl _) (fun k e => by cases e)
  have HNU := hide (number_any 4 L.length (by omega) (by simp) hb1.size ho1)
  have HB1 := hide hb1
  clear hl hi hz0 hz1 hz2 hg1 ho1 hb1
  have hu : IntKind.u64.wrap (L.length : Int) = (L.length : Int) := by rw [IntKind.wrap_u64]; omega
  go_enter Tryz.func45, Tryz.ntmps45
  go_wp2_with (first | (go_at_call 64; refine HNU.out.mono ?_; rintro e w2 ⟨v2, rfl, o2, b2⟩; have O2 := hide o2; have B2 := hide (HB1.out.trans b2); clear o2 b2) | fail)
  clear HNU hrun
  go_loopg [3, 20] (L.length + 1) (fun gh bv iv wr => ∃ i : Nat, iv = .int .i64 (i : Int) ∧ i ≤ L.length ∧ L.length + 1 ≤ gh + i ∧ Hid (OwnL 5 1 u8cs w.heap.size wr bv (be 4 L.length ++ (L.take i).flatMap wb)) ∧ Hid (Below w.heap.size w wr))
  case atStart => exact ⟨0, rfl, by omega, by omega, (show OwnL _ _ _ _ _ _ _ by simpa using O2.out), B2⟩
  case round =>
    obtain ⟨i, rfl, hi, hg, GO, GB⟩ := hrel
    obtain ⟨go, rfl⟩ : ∃ go, gk = go + 1 := ⟨gk - 1, by omega⟩
    by_cases hlt : i < L.length
    · obtain ⟨x, hx⟩ := get_of_lt hlt
      have bt : (i : Int) < (L.length : Int) := by omega
      obtain ⟨nb, no, rfl, nlt, e0, e1, e2, e3⟩ := (HL.out.below GB.out).pane hx
      have HTS : Hid (be 4 L.length ++ (L.take (i + 1)).flatMap wb = be 4 L.length ++ (L.take i).flatMap wb ++ wb x) := (show _ = _ by
        have e : L[i] = x := by rw [List.getElem?_eq_getElem hlt] at hx; exact Option.some.inj hx
        rw [List.take_succ_eq_append_getElem hlt, e, List.flatMap_append, List.append_assoc]; simp)
      have HLN : Hid ((be 4 L.length ++ (L.take i).flatMap wb).length ≤ 800000) := (show _ ≤ _ by rw [List.length_append, be_length, flat_wb, List.length_take]; omega)
      generalize be 4 L.length ++ (L.take i).flatMap wb = Q at *
      have HBX := hide (below_box wr (.cells #[.int .i64 x.k, .int .i64 x.f, .int .i64 x.t, .int .i64 x.a] 70))
      have HO1 := hide (GO.out.below HBX.out)
      have HB2 := hide (GB.out.trans (HBX.out.mono GB.out.size))
      clear hx
      obtain ⟨xk, xf, xt, xa⟩ := x
      simp only at e0 e1 e2 e3 HBX HO1 HB2
      go_wp2_with fail
      obtain ⟨wo, rfl⟩ : ∃ wo, wo = wr := ⟨_, rfl⟩
      go_loopg [3, 7, 35] 5 (fun gh bv _ jv wi => ∃ j : Nat, jv = .int .i64 (j : Int) ∧ j ≤ 4 ∧ 5 ≤ gh + j ∧ Hid (OwnL 5 1 u8cs w.heap.size wi bv (Q ++ ([xk, xf, xt, xa].take j).flatMap sbe)) ∧ Hid (Below w.heap.size w wi))
      case atStart => exact ⟨0, rfl, by omega, by omega, (show OwnL _ _ _ _ _ _ _ by simpa using HO1.out), HB2⟩
      case round =>
        obtain ⟨j, rfl, hj, hg2, GO2, GB2⟩ := hrel
        obtain ⟨go2, hgo2⟩ : ∃ go2, gk = go2 + 1 := ⟨gk - 1, by omega⟩
        subst hgo2
        obtain ⟨ix0, ix1, ix2, ix3⟩ := arr_ix xk xf xt xa wr
        have hcases : j = 0 ∨ j = 1 ∨ j = 2 ∨ j = 3 ∨ j = 4 := by omega
        obtain ⟨ba, bc, rfl⟩ := GO2.out.shape
        have HBD : Hid ((Q ++ ([xk, xf, xt, xa].take j).flatMap sbe).length ≤ 900000) := (show _ ≤ _ by rw [List.length_append, sbe_flat, List.length_take]; have := HLN.out; simp; omega)
        generalize hQQ : Q ++ ([xk, xf, xt, xa].take j).flatMap sbe = QQ at *
        have HQQ := hide hQQ
        clear hQQ
        rcases hcases with rfl | rfl | rfl | rfl | rfl
        · have HS := hide (signed_any xk (w := wr) (HBD.out) (Nat.le_trans GB2.out.size (Nat.le_refl _)) GO2.out)
          go_wp2_with (first | (go_at_call 64; refine HS.out.mono ?_; rintro e w5 ⟨v5, rfl, o5, b5⟩; have O5 := hide o5; have B5 := hide (GB2.out.trans b5); clear o5 b5) | fail)
          go_roundg go2
          case rel => exact ⟨1, rfl, by omega, by omega, (show OwnL _ _ _ _ _ _ _ by have h1 := O5.out; rw [← HQQ.out] at h1; simpa using h1), B5⟩
          case measure => omega
        · have HS := hide (signed_any xf (w := wr) (HBD.out) (Nat.le_trans GB2.out.size (Nat.le_refl _)) GO2.out)
          go_wp2_with (first | (go_at_call 64; refine HS.out.mono ?_; rintro e w5 ⟨v5, rfl, o5, b5⟩; have O5 := hide o5; have B5 := hide (GB2.out.trans b5); clear o5 b5) | fail)
          go_roundg go2
          case rel => exact ⟨2, rfl, by omega, by omega, (show OwnL _ _ _ _ _ _ _ by have h1 := O5.out; rw [← HQQ.out] at h1; simpa using h1), B5⟩
          case measure => omega
        · have HS := hide (signed_any xt (w := wr) (HBD.out) (Nat.le_trans GB2.out.size (Nat.le_refl _)) GO2.out)
          go_wp2_with (first | (go_at_call 64; refine HS.out.mono ?_; rintro e w5 ⟨v5, rfl, o5, b5⟩; have O5 := hide o5; have B5 := hide (GB2.out.trans b5); clear o5 b5) | fail)
          go_roundg go2
          case rel => exact ⟨3, rfl, by omega, by omega, (show OwnL _ _ _ _ _ _ _ by have h1 := O5.out; rw [← HQQ.out] at h1; simpa using h1), B5⟩
          case measure => omega
        · have HS := hide (signed_any xa (w := wr) (HBD.out) (Nat.le_trans GB2.out.size (Nat.le_refl _)) GO2.out)
          go_wp2_with (first | (go_at_call 64; refine HS.out.mono ?_; rintro e w5 ⟨v5, rfl, o5, b5⟩; have O5 := hide o5; have B5 := hide (GB2.out.trans b5); clear o5 b5) | fail)
          go_roundg go2
          case rel => exact ⟨4, rfl, by omega, by omega, (show OwnL _ _ _ _ _ _ _ by have h1 := O5.out; rw [← HQQ.out] at h1; simpa using h1), B5⟩
          case measure => omega
        · go_wp2_with fail
          go_roundg go
          case rel => exact ⟨i + 1, by go_num, by omega, by omega, (show OwnL _ _ _ _ _ _ _ by rw [HTS.out, show Q ++ wb ⟨xk, xf, xt, xa⟩ = QQ by rw [← HQQ.out]; simp [wb]]; exact GO2.out), GB2⟩
          case measure => omega
    · obtain rfl : i = L.length := by omega
      have bt : ¬ ((L.length : Nat) : Int) < (L.length : Int) := by omega
      have HF : Hid (be 4 L.length ++ (L.take L.length).flatMap wb = wrB L) := (show _ = _ by rw [List.take_of_length_le (Nat.le_refl _)]; rfl)
      rw [HF.out] at GO
      obtain ⟨va, vc, rfl⟩ := GO.out.shape
      go_wp2_with fail
      go_ret
      exact ⟨_, rfl, GO.out, GB.out⟩
set_option maxHeartbeats 8000000 in
set_option maxRecDepth 100000 in
theorem Bytes_any {w : World} {s : Nat} {kd size slide ag : Int} {fp : Nat → Prop} {M : List Pn} (h : SA w s kd size slide ag fp M) (hn : M.length ≤ 20000) :
    Calls Tryz.prog 18 #[.pointer (some ⟨s, 0, none⟩)] w fun e w' => ∃ u, e = .returned u ∧ OwnL 5 1 u8cs w.heap.size w' u (wrB (srt M)) ∧ Below w.heap.size w w' := by
  have HP := hide (Panes_any h (by omega))
  have hsl : (srt M).length ≤ 20000 := by rw [srt_len]; exact hn
  generalize srt M = L at *
  clear h
  go_enter Tryz.func18, Tryz.ntmps18
  go_wp2_with (first | (go_at_call 16; refine HP.out.mono ?_; rintro e w1 ⟨u, rfl, o1, b1⟩; have HW := hide (written_any (o1.seg Pn.cs_len (by omega)) hsl); have B1 := hide b1; clear o1 b1) | (go_at_call 45; refine HW.out.mono ?_; rintro e w2 ⟨u2, rfl, o2, b2⟩) | fail)
  go_ret
  exact ⟨_, rfl, o2.mono B1.out.size, B1.out.trans (b2.mono B1.out.size)⟩
end Go.Proofs.YtdoldohcimbdaaaGreat
/-
  numberOf.
-/
namespace Go.Proofs.YtdoldohcimbdaaaGreat
open Go.RowKit

/-- The number whose bytes these are, the highest first. -/
def nOf (l : List Nat) : Nat := l.foldl (fun n x => n * 256 + x) 0
theorem nOf_snoc (l : List Nat) (x : Nat) : nOf (l ++ [x]) = nOf l * 256 + x := by unfold nOf; rw [List.foldl_append]; rfl
theorem nOf_le : ∀ (l : List Nat) (a : Nat), (∀ x ∈ l, x < 256) → l.foldl (fun n x => n * 256 + x) a + 1 ≤ (a + 1) * 256 ^ l.length
  | [], a, _ => by simp
  | x :: l, a, h => by
    have h1 := nOf_le l (a * 256 + x) (fun y hy => h y (List.mem_cons_of_mem _ hy))
    have h2 := h x (List.mem_cons_self ..)
    have h3 : (a * 256 + x + 1) * 256 ^ l.length ≤ ((a + 1) * 256) * 256 ^ l.length := Nat.mul_le_mul_right _ (by omega)
    rw [List.foldl_cons, List.length_cons, Nat.pow_succ, Nat.mul_comm (256 ^ l.length), ← Nat.mul_assoc]
    omega
theorem nOf_lt (l : List Nat) (h : ∀ x ∈ l, x < 256) : nOf l < 256 ^ l.length := by
  have := nOf_le l 0 h
  unfold nOf
  omega
theorem or_byte (n x : Nat) (hx : x < 256) : n * 256 ||| x = n * 256 + x := by
  have h := Nat.shiftLeft_add_eq_or_of_lt (b := x) (i := 8) (by omega) n
  rw [Nat.shiftLeft_eq] at h
  exact h.symm
theorem orb_eq (n x : Nat) (hn : n < 72057594037927936) (hx : x < 256) : bits .or .u64 ((n : Int) * 256) (x : Int) = ((n * 256 + x : Nat) : Int) := by
  rw [show (n : Int) * 256 = ((n * 256 : Nat) : Int) by omega, u64_or_nat _ _ (by omega) (by omega), or_byte n x hx]
set_option maxHeartbeats 4000000 in
set_option maxRecDepth 100000 in
theorem numberOf_any {w : World} {v : Value} {l : List Nat} (hl : LSeg 1 u8cs w.heap.size w v l) (hb : ∀ x ∈ l, x < 256) (hn : l.length ≤ 8) : Calls Tryz.prog 62 #[v] w fun e w' => e = .returned (.int .u64 (nOf l : Int)) ∧ w' = w := by
  obtain ⟨ao, cap, rfl⟩ := hl.shapeOf
  have HL := hide hl
  have HB := hide hb
  clear hl hb
  go_enter Tryz.func62, Tryz.ntmps62
  go_wp2_with fail
  go_loopg [3, 5, 8] (l.length + 1) (fun gh nv _ iv wr => ∃ i : Nat, iv = .int .i64 (i : Int) ∧ nv = .int .u64 (nOf (l.take i) : Int) ∧ i ≤ l.length ∧ l.length + 1 ≤ gh + i ∧ wr = w)
  case atStart => exact ⟨0, rfl, rfl, by omega, by omega, rfl⟩
  case round =>
    obtain ⟨i, rfl, rfl, hi, hg, rfl⟩ := hrel
    obtain ⟨go, rfl⟩ : ∃ go, gk = go + 1 := ⟨gk - 1, by omega⟩
    by_cases hlt : i < l.length
    · obtain ⟨x, hx⟩ := get_of_lt hlt
      have bt : (i : Int) < (l.length : Int) := by omega
      have hxb := HB.out x (List.mem_of_getElem? hx)
      have hlt2 : nOf (l.take i) < 72057594037927936 := by
        have h1 := nOf_lt (l.take i) (fun y hy => HB.out y (List.mem_of_mem_take hy))
        have h2 : 256 ^ (l.take i).length ≤ 256 ^ 7 := Nat.pow_le_pow_right (by omega) (by rw [List.length_take]; omega)
        have h3 : (256 : Nat) ^ 7 = 72057594037927936 := by decide
        omega
      have HS : Hid (nOf (l.take (i + 1)) = nOf (l.take i) * 256 + x) := (show _ = _ by
        have e : l[i] = x := by rw [List.getElem?_eq_getElem hlt] at hx; exact Option.some.inj hx
        rw [List.take_succ_eq_append_getElem hlt, e, nOf_snoc])
      obtain ⟨nb, no, rfl, nlt, _, d⟩ := HL.out.readAt hx
      have d0 : wr.cell? ⟨nb, no + i, none⟩ = some (.int .u8 (x : Int)) := by have h0 := d 0 _ rfl; simpa using h0
      clear d hx
      generalize nOf (l.take i) = N at *
      go_wp2_with fail
      go_roundg go
      case rel =>
        refine ⟨i + 1, by go_num, ?_, by omega, by omega, rfl⟩
        rw [HS.out]
        exact congrArg (Value.int .u64) (orb_eq _ _ hlt2 hxb)
      case measure => omega
    · have bt : ¬ (i : Int) < (l.length : Int) := by omega
      have HT : Hid (l.take i = l) := (show _ = _ from List.take_of_length_le (by omega))
      rw [HT.out]
      go_wp2_with fail
      go_ret
      exact ⟨rfl, rfl⟩
end Go.Proofs.YtdoldohcimbdaaaGreat

/-
  Grow, Concat.
-/
import Derived.Test.YteafnohponbbeaaKLog
import Derived.Lib.AppendZerosOnto
namespace Go.Proofs.Yteafnohponbbeaa
open Go.RowKit

theorem wp_appM {w : World} {ops : Array Oper} {rest : List Oper} {o : Oper} {a : Act} {Q : Exit → Act → World → Prop} (hgd : o.guard = none) (s x : Operand) (ts : Array TypeId) (ho : o.op = .call { callee := .builtin .append, args := #[s, x], argTypes := ts }) (vs vx : Value) (hs : a.eval s = vs) (hx : a.eval x = vx) {v' : Value} {w' : World}
    (hr : (Builtin.append_ ts o.type #[vs, vx]).run Try.prog w = .ok v' w') (h : wpList Try.prog ops Q rest (a.put o.dst v') w') : wpList Try.prog ops Q (o :: rest) a w := by
  refine wpList_plain hgd fun K hK => ?_
  unfold Oper.wp execOp
  simp only [ho, resolve, invoke, builtin, Sem.run_bind, Sem.run_pure, Result.andThen_ok, List.map_toArray, List.map_cons, List.map_nil, hs, hx, hr]
  exact hK _ _ h
set_option maxHeartbeats 4000000 in
set_option maxRecDepth 100000 in
/-- Grow of nothing: an own row without a thing, with room for n. -/
theorem GrowRc_any (w : World) (n : Nat) (hn : n ≤ 1000000) : Calls Try.prog 37 #[.slice none 0 0, .int .i64 (n : Int)] w fun e w' => ∃ u, e = .returned u ∧ OwnL 39 3 Rc.cs w.heap.size w' u [] ∧ Below w.heap.size w w' := by
  obtain ⟨i0, hi0, hz0, hz1, hz2⟩ := info_parts Try.infoRc
  by_cases h0 : n = 0
  · subst h0
    clear hz0 hz1 hz2 hi0
    go_enter Try.func37, Try.ntmps37
    go_wp2_with fail
    go_ret
    exact ⟨_, rfl, OwnL.nil _ _ _ _ _, Below.refl _ _⟩
  · have bt : (0 : Int) < (n : Int) := by omega
    obtain ⟨G, hG⟩ : ∃ G, G = grownCap w n 0 39 := ⟨_, rfl⟩
    have hGn : n ≤ G := by rw [hG]; exact grownCap_ge w _ _ _
    have hG63 : G ≤ maxLen := by rw [hG]; exact grownCap_le_maxLen w _ _ _ (by unfold maxLen; omega)
    obtain ⟨ROW, hROW⟩ : ∃ ROW : Array Value, ROW = Builtin.zeroCells #[.int .i64 0, .int .i64 0, .int .i64 0] n ++ Builtin.zeroCells #[.int .i64 0, .int .i64 0, .int .i64 0] (G - n) := ⟨_, rfl⟩
    have hRs : ROW.size = G * 3 := by
      rw [hROW]
      simp [Builtin.zeroCells]
      omega
    have hrun : ∀ ty, (Builtin.append_ #[29, 3] ty #[.slice none 0 0, .int .i64 (n : Int)]).run Try.prog w = .ok (.slice (some ⟨w.heap.size, 0, none⟩) n G) (w.drew.alloc (.cells ROW 39)) := fun ty => by
      have h := Lib.run_append_grow_zeros w 29 3 ty 39 i0 _ .i64 .i64 Try.underlying29 Try.underlying3 hi0 hz0 none 0 0 [] (by simp [Builtin.firstCells]) n (by omega) (by rw [hz1]; omega) (by omega) (by omega) (by rw [hz2]; omega) (by
        rw [Nat.zero_add, nextslicecap_zero (by omega), hz2]; omega)
      rw [Nat.zero_add, ← hG] at h
      rw [hROW]
      simpa [Value.cells] using h
    have hGi : (0 : Int) ≤ (G : Int) := by omega
    have HW1 : Hid (BoxT 39 (w.drew.alloc (.cells ROW 39)) w.heap.size ROW) := BoxT.new_at (t := 39) (w := w.drew) rfl
    have HRS := hide hRs
    have HGM := hide hG63
    have HRUN := hide hrun
    clear hz0 hz1 hz2 hi0 hRs hROW hG hG63 hrun
    go_enter Try.func37, Try.ntmps37
    go_wp2_with (at_builtin; refine wp_appM rfl _ _ _ rfl _ _ rfl rfl (HRUN.out _) ?_)
    go_ret
    refine ⟨_, rfl, ⟨by simp, .inr ⟨w.heap.size, G, ROW, rfl, Nat.le_refl _, HW1.out, Nat.zero_le _, HGM.out, HRS.out, by simp⟩⟩, ((Below.refl w.heap.size w).drew).alloc (Nat.le_refl _) _⟩
set_option maxHeartbeats 4000000 in
set_option maxRecDepth 100000 in
/-- Grow of nothing: an own row without a thing, with room for n. -/
theorem GrowTx_any (w : World) (n : Nat) (hn : n ≤ 1000000) : Calls Try.prog 38 #[.slice none 0 0, .int .i64 (n : Int)] w fun e w' => ∃ u, e = .returned u ∧ OwnL 69 2 Tx.cs w.heap.size w' u [] ∧ Below w.heap.size w w' := by
  obtain ⟨i0, hi0, hz0, hz1, hz2⟩ := info_parts Try.infoTx
  by_cases h0 : n = 0
  · subst h0
    clear hz0 hz1 hz2 hi0
    go_enter Try.func38, Try.ntmps38
    go_wp2_with fail
    go_ret
    exact ⟨_, rfl, OwnL.nil _ _ _ _ _, Below.refl _ _⟩
  · have bt : (0 : Int) < (n : Int) := by omega
    obtain ⟨G, hG⟩ : ∃ G, G = grownCap w n 0 69 := ⟨_, rfl⟩
    have hGn : n ≤ G := by rw [hG]; exact grownCap_ge w _ _ _
    have hG63 : G ≤ maxLen := by rw [hG]; exact grownCap_le_maxLen w _ _ _ (by unfold maxLen; omega)
    obtain ⟨ROW, hROW⟩ : ∃ ROW : Array Value, ROW = Builtin.zeroCells #[.int .u64 0, .slice none 0 0] n ++ Builtin.zeroCells #[.int .u64 0, .slice none 0 0] (G - n) := ⟨_, rfl⟩
    have hRs : ROW.size = G * 2 := by
      rw [hROW]
      simp [Builtin.zeroCells]
      omega
    have hrun : ∀ ty, (Builtin.append_ #[63, 3] ty #[.slice none 0 0, .int .i64 (n : Int)]).run Try.prog w = .ok (.slice (some ⟨w.heap.size, 0, none⟩) n G) (w.drew.alloc (.cells ROW 69)) := fun ty => by
      have h := Lib.run_append_grow_zeros w 63 3 ty 69 i0 _ .i64 .i64 Try.underlying63 Try.underlying3 hi0 hz0 none 0 0 [] (by simp [Builtin.firstCells]) n (by omega) (by rw [hz1]; omega) (by omega) (by omega) (by rw [hz2]; omega) (by
        rw [Nat.zero_add, nextslicecap_zero (by omega), hz2]; omega)
      rw [Nat.zero_add, ← hG] at h
      rw [hROW]
      simpa [Value.cells] using h
    have hGi : (0 : Int) ≤ (G : Int) := by omega
    have HW1 : Hid (BoxT 69 (w.drew.alloc (.cells ROW 69)) w.heap.size ROW) := BoxT.new_at (t := 69) (w := w.drew) rfl
    have HRS := hide hRs
    have HGM := hide hG63
    have HRUN := hide hrun
    clear hz0 hz1 hz2 hi0 hRs hROW hG hG63 hrun
    go_enter Try.func38, Try.ntmps38
    go_wp2_with (at_builtin; refine wp_appM rfl _ _ _ rfl _ _ rfl rfl (HRUN.out _) ?_)
    go_ret
    refine ⟨_, rfl, ⟨by simp, .inr ⟨w.heap.size, G, ROW, rfl, Nat.le_refl _, HW1.out, Nat.zero_le _, HGM.out, HRS.out, by simp⟩⟩, ((Below.refl w.heap.size w).drew).alloc (Nat.le_refl _) _⟩
set_option maxHeartbeats 4000000 in
set_option maxRecDepth 100000 in
theorem ConcatRc_any {w : World} {B : Nat} {ov : Value} {O : List Tx} (hl : LSeg 1 Tx.c1 B w ov O) (hB : B ≤ w.heap.size) (hx : ∀ x ∈ O, LSeg 3 Rc.cs B w x.v x.rs) (hn : (O.map Tx.rs).flatten.length ≤ 1000000) (hO : O.length ≤ 1000000) :
    Calls Try.prog 32 #[ov] w fun e w' => ∃ u, e = .returned u ∧ OwnL 39 3 Rc.cs w.heap.size w' u (O.map Tx.rs).flatten ∧ Below w.heap.size w w' := by
  obtain ⟨ao, cap, rfl⟩ := hl.shapeOf
  have hn1 : ∀ i, ((O.take i).map Tx.rs).flatten.length ≤ 1000000 := fun i => by
    have e : O.map Tx.rs = (O.take i).map Tx.rs ++ (O.drop i).map Tx.rs := by rw [← List.map_append, List.take_append_drop]
    rw [e, List.flatten_append, List.length_append] at hn
    omega
  have hsn : ∀ i x, O[i]? = some x → ((O.take (i + 1)).map Tx.rs).flatten = ((O.take i).map Tx.rs).flatten ++ x.rs := fun i x h => by
    obtain ⟨h1, rfl⟩ := List.getElem?_eq_some_iff.1 h
    rw [List.take_succ_eq_append_getElem h1, List.map_append, List.flatten_append]
    simp
  have HL := hide hl
  have HX := hide hx
  have HN := hide hn1
  have HS := hide hsn
  have HOO := hide hO
  clear hl hx hn hn1 hsn hO
  go_enter Try.func32, Try.ntmps32
  go_wp2_with fail
  go_loopg [3, 5, 11] (O.length + 1) (fun gh sv xv iv wr => ∃ i s : Nat, iv = .int .i64 (i : Int) ∧ sv = .int .i64 (s : Int) ∧ i ≤ O.length ∧ O.length + 1 ≤ gh + i ∧ Hid (s = ((O.take i).map Tx.rs).flatten.length) ∧ wr = w)
  case atStart => exact ⟨0, 0, rfl, rfl, by omega, by omega, (show _ = _ by simp), rfl⟩
  case round =>
    obtain ⟨i, s, rfl, rfl, hi, hg, HE, rfl⟩ := hrel
    obtain ⟨go, rfl⟩ : ∃ go, gk = go + 1 := ⟨gk - 1, by omega⟩
    have hs6 : s ≤ 1000000 := by rw [HE.out]; exact HN.out i
    have hO6 := HOO.out
    by_cases hlt : i < O.length
    · obtain ⟨x, hxx⟩ := get_of_lt hlt
      have bt : (i : Int) < (O.length : Int) := by omega
      obtain ⟨nb, no, rfl, nlt, -, d⟩ := HL.out.readAt hxx
      have e0 : wr.cell? ⟨nb, no + i, none⟩ = some x.v := by have := d 0 _ rfl; simpa using this
      obtain ⟨r, hr⟩ : ∃ r, x.rs.length = r := ⟨_, rfl⟩
      have HE2 : Hid (s + r = ((O.take (i + 1)).map Tx.rs).flatten.length) := (show _ = _ by rw [HS.out i x hxx, List.length_append, hr, HE.out])
      have h7 : s + r ≤ 1000000 := by rw [HE2.out]; exact HN.out _
      have bz : ¬ ((s : Int) + (r : Int) < 0) := by omega
      unfold Tx.v at e0
      rw [hr] at e0
      clear d hxx hr
      go_wp2_with fail
      go_roundg go
      case rel => exact ⟨i + 1, s + r, by go_num, by go_num, by omega, by omega, HE2, rfl⟩
      case measure => omega
    · obtain rfl : i = O.length := by omega
      have bt : ¬ ((O.length : Nat) : Int) < (O.length : Int) := by omega
      have HG := hide (GrowRc_any wr s hs6)
      clear hs6 hi hg hlt
      obtain ⟨wo, rfl⟩ : ∃ wo, wo = wr := ⟨_, rfl⟩
      go_wp2_with (first | (go_at_call 37; refine HG.out.mono ?_; rintro e w1 ⟨u, rfl, o1, b1⟩; have O1 := hide o1; have B1 := hide b1; clear o1 b1) | fail)
      go_loopg [6, 8, 27] (O.length + 1) (fun gh uv xv iv w2 => ∃ i : Nat, iv = .int .i64 (i : Int) ∧ i ≤ O.length ∧ O.length + 1 ≤ gh + i ∧ Hid (OwnL 39 3 Rc.cs wo.heap.size w2 uv ((O.take i).map Tx.rs).flatten) ∧ Hid (Below wo.heap.size wo w2))
      case atStart => exact ⟨0, rfl, by omega, by omega, (show OwnL _ _ _ _ _ _ _ by simpa using O1.out), B1⟩
      case round =>
        obtain ⟨i, rfl, hi, hg, HOW, HBW⟩ := hrel
        obtain ⟨go, rfl⟩ : ∃ go, gk = go + 1 := ⟨gk - 1, by omega⟩
        by_cases hlt : i < O.length
        · obtain ⟨x, hxx⟩ := get_of_lt hlt
          have bt : (i : Int) < (O.length : Int) := by omega
          obtain ⟨nb, no, rfl, nlt, -, d⟩ := (HL.out.below (HBW.out.mono hB)).readAt hxx
          have e0 : wr.cell? ⟨nb, no + i, none⟩ = some x.v := by have := d 0 _ rfl; simpa using this
          have HSG := hide ((HX.out x (List.mem_of_getElem? hxx)).below (HBW.out.mono hB))
          have HLN : Hid (((O.take i).map Tx.rs).flatten.length + x.rs.length ≤ 1000000) := (show _ ≤ _ by rw [← List.length_append, ← HS.out i x hxx]; exact HN.out _)
          have HSZ := hide HBW.out.size
          have HEQ := hide (HS.out i x hxx)
          obtain ⟨r, hr⟩ : ∃ r, x.rs.length = r := ⟨_, rfl⟩
          have hv : x.v = .slice x.a r x.c := by rw [← hr]; rfl
          rw [hv] at e0
          have HSG2 : Hid (LSeg 3 Rc.cs B wr (.slice x.a r x.c) x.rs) := (show LSeg _ _ _ _ _ _ by rw [← hv]; exact HSG.out)
          clear d hxx hr hv HSG
          go_wp2_with (at_builtin; refine app_segL Try.infoRc Try.underlying29 rfl (by decide) (by decide) Rc.cs_len Rc.cs_one rfl _ _ rfl wo.heap.size _ _ rfl HOW.out B _ x.rs rfl HSG2.out HLN.out HSZ.out ?_; intro v4 w4 h4 g4 k4; have H4 := hide h4; have B4 := hide (HBW.out.grown g4 HSZ.out (fun g e => HOW.out.at g e)); clear h4 g4 k4)
          go_roundg go
          case rel => exact ⟨i + 1, by go_num, by omega, by omega, (show OwnL _ _ _ _ _ _ _ by rw [HEQ.out]; exact H4.out), B4⟩
          case measure => omega
        · obtain rfl : i = O.length := by omega
          have bt : ¬ ((O.length : Nat) : Int) < (O.length : Int) := by omega
          go_wp2_with fail
          go_ret
          refine ⟨_, rfl, ?_, HBW.out⟩
          have := HOW.out
          rw [List.take_of_length_le (Nat.le_refl _)] at this
          exact this
/-- A slice of transactions, as one thing. -/
structure Sx where
  a : Option Addr
  c : Nat
  xs : List Tx
def Sx.v (x : Sx) : Value := .slice x.a x.xs.length x.c
def Sx.cs (x : Sx) : List Value := [x.v]
theorem Sx.cs_len (x : Sx) : x.cs.length = 1 := rfl
set_option maxHeartbeats 4000000 in
set_option maxRecDepth 100000 in
theorem ConcatTx_any {w : World} {B : Nat} {ov : Value} {O : List Sx} (hl : LSeg 1 Sx.cs B w ov O) (hB : B ≤ w.heap.size) (hx : ∀ x ∈ O, LSeg 2 Tx.cs B w x.v x.xs) (hn : (O.map Sx.xs).flatten.length ≤ 1000000) (hO : O.length ≤ 1000000) :
    Calls Try.prog 33 #[ov] w fun e w' => ∃ u, e = .returned u ∧ OwnL 69 2 Tx.cs w.heap.size w' u (O.map Sx.xs).flatten ∧ Below w.heap.size w w' := by
  obtain ⟨ao, cap, rfl⟩ := hl.shapeOf
  have hn1 : ∀ i, ((O.take i).map Sx.xs).flatten.length ≤ 1000000 := fun i => by
    have e : O.map Sx.xs = (O.take i).map Sx.xs ++ (O.drop i).map Sx.xs := by rw [← List.map_append, List.take_append_drop]
    rw [e, List.flatten_append, List.length_append] at hn
    omega
  have hsn : ∀ i x, O[i]? = some x → ((O.take (i + 1)).map Sx.xs).flatten = ((O.take i).map Sx.xs).flatten ++ x.xs := fun i x h => by
    obtain ⟨h1, rfl⟩ := List.getElem?_eq_some_iff.1 h
    rw [List.take_succ_eq_append_getElem h1, List.map_append, List.flatten_append]
    simp
  have HL := hide hl
  have HX := hide hx
  have HN := hide hn1
  have HS := hide hsn
  have HOO := hide hO
  clear hl hx hn hn1 hsn hO
  go_enter Try.func33, Try.ntmps33
  go_wp2_with fail
  go_loopg [3, 5, 11] (O.length + 1) (fun gh sv xv iv wr => ∃ i s : Nat, iv = .int .i64 (i : Int) ∧ sv = .int .i64 (s : Int) ∧ i ≤ O.length ∧ O.length + 1 ≤ gh + i ∧ Hid (s = ((O.take i).map Sx.xs).flatten.length) ∧ wr = w)
  case atStart => exact ⟨0, 0, rfl, rfl, by omega, by omega, (show _ = _ by simp), rfl⟩
  case round =>
    obtain ⟨i, s, rfl, rfl, hi, hg, HE, rfl⟩ := hrel
    obtain ⟨go, rfl⟩ : ∃ go, gk = go + 1 := ⟨gk - 1, by omega⟩
    have hs6 : s ≤ 1000000 := by rw [HE.out]; exact HN.out i
    have hO6 := HOO.out
    by_cases hlt : i < O.length
    · obtain ⟨x, hxx⟩ := get_of_lt hlt
      have bt : (i : Int) < (O.length : Int) := by omega
      obtain ⟨nb, no, rfl, nlt, -, d⟩ := HL.out.readAt hxx
      have e0 : wr.cell? ⟨nb, no + i, none⟩ = some x.v := by have := d 0 _ rfl; simpa using this
      obtain ⟨r, hr⟩ : ∃ r, x.xs.length = r := ⟨_, rfl⟩
      have HE2 : Hid (s + r = ((O.take (i + 1)).map Sx.xs).flatten.length) := (show _ = _ by rw [HS.out i x hxx, List.length_append, hr, HE.out])
      have h7 : s + r ≤ 1000000 := by rw [HE2.out]; exact HN.out _
      have bz : ¬ ((s : Int) + (r : Int) < 0) := by omega
      unfold Sx.v at e0
      rw [hr] at e0
      clear d hxx hr
      go_wp2_with fail
      go_roundg go
      case rel => exact ⟨i + 1, s + r, by go_num, by go_num, by omega, by omega, HE2, rfl⟩
      case measure => omega
    · obtain rfl : i = O.length := by omega
      have bt : ¬ ((O.length : Nat) : Int) < (O.length : Int) := by omega
      have HG := hide (GrowTx_any wr s hs6)
      clear hs6 hi hg hlt
      obtain ⟨wo, rfl⟩ : ∃ wo, wo = wr := ⟨_, rfl⟩
      go_wp2_with (first | (go_at_call 38; refine HG.out.mono ?_; rintro e w1 ⟨u, rfl, o1, b1⟩; have O1 := hide o1; have B1 := hide b1; clear o1 b1) | fail)
      go_loopg [6, 8, 27] (O.length + 1) (fun gh uv xv iv w2 => ∃ i : Nat, iv = .int .i64 (i : Int) ∧ i ≤ O.length ∧ O.length + 1 ≤ gh + i ∧ Hid (OwnL 69 2 Tx.cs wo.heap.size w2 uv ((O.take i).map Sx.xs).flatten) ∧ Hid (Below wo.heap.size wo w2))
      case atStart => exact ⟨0, rfl, by omega, by omega, (show OwnL _ _ _ _ _ _ _ by simpa using O1.out), B1⟩
      case round =>
        obtain ⟨i, rfl, hi, hg, HOW, HBW⟩ := hrel
        obtain ⟨go, rfl⟩ : ∃ go, gk = go + 1 := ⟨gk - 1, by omega⟩
        by_cases hlt : i < O.length
        · obtain ⟨x, hxx⟩ := get_of_lt hlt
          have bt : (i : Int) < (O.length : Int) := by omega
          obtain ⟨nb, no, rfl, nlt, -, d⟩ := (HL.out.below (HBW.out.mono hB)).readAt hxx
          have e0 : wr.cell? ⟨nb, no + i, none⟩ = some x.v := by have := d 0 _ rfl; simpa using this
          have HSG := hide ((HX.out x (List.mem_of_getElem? hxx)).below (HBW.out.mono hB))
          have HLN : Hid (((O.take i).map Sx.xs).flatten.length + x.xs.length ≤ 1000000) := (show _ ≤ _ by rw [← List.length_append, ← HS.out i x hxx]; exact HN.out _)
          have HSZ := hide HBW.out.size
          have HEQ := hide (HS.out i x hxx)
          obtain ⟨r, hr⟩ : ∃ r, x.xs.length = r := ⟨_, rfl⟩
          have hv : x.v = .slice x.a r x.c := by rw [← hr]; rfl
          rw [hv] at e0
          have HSG2 : Hid (LSeg 2 Tx.cs B wr (.slice x.a r x.c) x.xs) := (show LSeg _ _ _ _ _ _ by rw [← hv]; exact HSG.out)
          clear d hxx hr hv HSG
          go_wp2_with (at_builtin; refine app_segL Try.infoTx Try.underlying63 rfl (by decide) (by decide) Tx.cs_len Tx.cs_one rfl _ _ rfl wo.heap.size _ _ rfl HOW.out B _ x.xs rfl HSG2.out HLN.out HSZ.out ?_; intro v4 w4 h4 g4 k4; have H4 := hide h4; have B4 := hide (HBW.out.grown g4 HSZ.out (fun g e => HOW.out.at g e)); clear h4 g4 k4)
          go_roundg go
          case rel => exact ⟨i + 1, by go_num, by omega, by omega, (show OwnL _ _ _ _ _ _ _ by rw [HEQ.out]; exact H4.out), B4⟩
          case measure => omega
        · obtain rfl : i = O.length := by omega
          have bt : ¬ ((O.length : Nat) : Int) < (O.length : Int) := by omega
          go_wp2_with fail
          go_ret
          refine ⟨_, rfl, ?_, HBW.out⟩
          have := HOW.out
          rw [List.take_of_length_le (Nat.le_refl _)] at this
          exact this

end Go.Proofs.Yteafnohponbbeaa

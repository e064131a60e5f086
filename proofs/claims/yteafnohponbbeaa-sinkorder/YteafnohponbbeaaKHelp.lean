/-
  Records, Nums, Place; steps, light, rec.
-/
import Derived.Test.YteafnohponbbeaaKCm2
namespace Go.Proofs.Yteafnohponbbeaa
open Go.RowKit

theorem LSeg.rec {B : Nat} {w : World} {ao : Option Addr} {n cap : Nat} {xs : List Rc} (h : LSeg 3 Rc.cs B w (.slice ao n cap) xs) {i : Nat} {x : Rc} (hx : xs[i]? = some x) : ∃ b o, ao = some ⟨b, o, none⟩ ∧ b < B ∧ w.cell? ⟨b, o + i * 3, none⟩ = some (.int .i64 x.k) ∧ w.cell? ⟨b, o + i * 3 + 1, none⟩ = some (.int .i64 x.t) ∧ w.cell? ⟨b, o + i * 3 + 2, none⟩ = some (.int .i64 x.v) := by
  obtain ⟨b, o, e, hb, _, d⟩ := h.readAt hx
  exact ⟨b, o, e, hb, d 0 _ rfl, d 1 _ rfl, d 2 _ rfl⟩
set_option maxHeartbeats 1000000 in
set_option maxRecDepth 100000 in
theorem hRecords_any {w : World} {v1 v2 : Value} {B1 B2 : Nat} {l : List Rc} (h1 : LSeg 3 Rc.cs B1 w v1 l) (h2 : LSeg 3 Rc.cs B2 w v2 l) (hn : l.length ≤ 1000000) : Calls Try.prog 17 #[v1, v2] w fun e w' => e = .returned (.bool true) ∧ Below w.heap.size w w' := by
  obtain ⟨a1, c1, rfl⟩ := h1.shapeOf
  obtain ⟨a2, c2, rfl⟩ := h2.shapeOf
  have H1 := hide h1
  have H2 := hide h2
  clear h1 h2
  go_enter Try.func17, Try.ntmps17
  go_wp2_with fail
  go_loopg [5] (l.length + 1) (fun gh iv wr => ∃ i : Nat, iv = .int .i64 (i : Int) ∧ i ≤ l.length ∧ l.length + 1 ≤ gh + i ∧ Hid (∀ B, Below B w wr))
  case atStart => exact ⟨0, rfl, by omega, by omega, (show ∀ B, _ from fun B => Below.refl _ _)⟩
  case round =>
    obtain ⟨i, rfl, hi, hg, HD⟩ := hrel
    obtain ⟨go, rfl⟩ : ∃ go, gk = go + 1 := ⟨gk - 1, by omega⟩
    by_cases hlt : i < l.length
    · obtain ⟨x, hx⟩ := get_of_lt hlt
      have bt : (i : Int) < (l.length : Int) := by omega
      have hbr := HD.out
      obtain ⟨b1, o1, rfl, _, e0, e1, e2⟩ := (H1.out.below (hbr _)).rec hx
      obtain ⟨b2, o2, rfl, _, f0, f1, f2⟩ := (H2.out.below (hbr _)).rec hx
      clear hx hbr
      obtain ⟨x0, x1, x2⟩ := x
      simp only at e0 e1 e2 f0 f1 f2
      go_wp2_with fail
      go_quiet (fail)
      go_wp2_with fail
      go_roundg go
      case rel => exact ⟨i + 1, by go_num, by omega, by omega, (show ∀ B, _ from fun B => below_drewN (HD.out B) _)⟩
      case measure => omega
    · have bt : ¬ (i : Int) < (l.length : Int) := by omega
      go_wp2_with fail
      go_ret
      exact ⟨rfl, HD.out _⟩
set_option maxHeartbeats 1000000 in
set_option maxRecDepth 100000 in
theorem hNums_any {w : World} {v1 v2 : Value} {B1 B2 : Nat} {l : List Nat} (h1 : LSeg 1 u64cs B1 w v1 l) (h2 : LSeg 1 u64cs B2 w v2 l) (hn : l.length ≤ 1000000) : Calls Try.prog 21 #[v1, v2] w fun e w' => e = .returned (.bool true) ∧ Below w.heap.size w w' := by
  obtain ⟨a1, c1, rfl⟩ := h1.shapeOf
  obtain ⟨a2, c2, rfl⟩ := h2.shapeOf
  have H1 := hide h1
  have H2 := hide h2
  clear h1 h2
  go_enter Try.func21, Try.ntmps21
  go_wp2_with fail
  go_loopg [5] (l.length + 1) (fun gh iv wr => ∃ i : Nat, iv = .int .i64 (i : Int) ∧ i ≤ l.length ∧ l.length + 1 ≤ gh + i ∧ Hid (∀ B, Below B w wr))
  case atStart => exact ⟨0, rfl, by omega, by omega, (show ∀ B, _ from fun B => Below.refl _ _)⟩
  case round =>
    obtain ⟨i, rfl, hi, hg, HD⟩ := hrel
    obtain ⟨go, rfl⟩ : ∃ go, gk = go + 1 := ⟨gk - 1, by omega⟩
    by_cases hlt : i < l.length
    · obtain ⟨x, hx⟩ := get_of_lt hlt
      have bt : (i : Int) < (l.length : Int) := by omega
      have hbr := HD.out
      obtain ⟨b1, o1, rfl, _, _, d⟩ := (H1.out.below (hbr _)).readAt hx
      obtain ⟨b2, o2, rfl, _, _, d'⟩ := (H2.out.below (hbr _)).readAt hx
      have e0 : wr.cell? ⟨b1, o1 + i, none⟩ = some (.int .u64 (x : Int)) := by have h0 := d 0 _ rfl; simpa using h0
      have f0 : wr.cell? ⟨b2, o2 + i, none⟩ = some (.int .u64 (x : Int)) := by have h0 := d' 0 _ rfl; simpa using h0
      clear hx hbr d d'
      go_wp2_with fail
      go_quiet (fail)
      go_wp2_with fail
      go_roundg go
      case rel => exact ⟨i + 1, by go_num, by omega, by omega, (show ∀ B, _ from fun B => below_drewN (HD.out B) _)⟩
      case measure => omega
    · have bt : ¬ (i : Int) < (l.length : Int) := by omega
      go_wp2_with fail
      go_ret
      exact ⟨rfl, HD.out _⟩
/-- A step of a script. -/
structure Stp where
  wh : Int
  pa : Int
  n : Nat
  a : Option Addr
  c : Nat
  rs : List Rc
def Stp.v (x : Stp) : Value := .slice x.a x.rs.length x.c
def Stp.cs (x : Stp) : List Value := [.int .i64 x.wh, .int .i64 x.pa, .int .u64 (x.n : Int), x.v]
theorem Stp.cs_len (x : Stp) : x.cs.length = 4 := rfl
structure StOk (B : Nat) (w : World) (x : Stp) : Prop where
  rs : LSeg 3 Rc.cs B w x.v x.rs
  pa : In64 x.pa
structure StsIn (B : Nat) (w : World) (v : Value) (l : List Stp) : Prop where
  seg : LSeg 4 Stp.cs B w v l
  ok : ∀ x ∈ l, StOk B w x
theorem StsIn.below {B : Nat} {w w' : World} {v : Value} {l : List Stp} (h : StsIn B w v l) (hb : Below B w w') : StsIn B w' v l := ⟨h.seg.below hb, fun x hx => ⟨(h.ok x hx).rs.below hb, (h.ok x hx).pa⟩⟩
theorem LSeg.stp {B : Nat} {w : World} {ao : Option Addr} {n cap : Nat} {xs : List Stp} (h : LSeg 4 Stp.cs B w (.slice ao n cap) xs) {i : Nat} {x : Stp} (hx : xs[i]? = some x) : ∃ b o, ao = some ⟨b, o, none⟩ ∧ b < B ∧ w.cell? ⟨b, o + i * 4, none⟩ = some (.int .i64 x.wh) ∧ w.cell? ⟨b, o + i * 4 + 1, none⟩ = some (.int .i64 x.pa) ∧ w.cell? ⟨b, o + i * 4 + 2, none⟩ = some (.int .u64 (x.n : Int)) ∧ w.cell? ⟨b, o + i * 4 + 3, none⟩ = some x.v := by
  obtain ⟨b, o, e, hb, _, d⟩ := h.readAt hx
  exact ⟨b, o, e, hb, d 0 _ rfl, d 1 _ rfl, d 2 _ rfl, d 3 _ rfl⟩
def stW (l : List Stp) : Nat := (l.map fun x => x.rs.length + 1).sum
theorem stW_snoc {l : List Stp} {i : Nat} {x : Stp} (h : l[i]? = some x) : stW (l.take (i + 1)) = stW (l.take i) + (x.rs.length + 1) := by
  obtain ⟨h1, rfl⟩ := List.getElem?_eq_some_iff.1 h
  rw [List.take_succ_eq_append_getElem h1]
  unfold stW
  rw [List.map_append, List.sum_append]
  simp
def LtP (e : Ending) (l : List Stp) : Prop := ∃ b : Bool, e = .returned (.bool b) ∧ (b = true → l.length ≤ 200 ∧ stW l ≤ 3000)
set_option maxHeartbeats 4000000 in
set_option maxRecDepth 100000 in
/-- light: yes only of few steps with few records. -/
theorem light_any {w : World} {B : Nat} {v : Value} {l : List Stp} (hl : StsIn B w v l) : Calls Try.prog 9 #[v] w fun e w' => LtP e l ∧ w' = w := by
  obtain ⟨ao, cap, rfl⟩ := hl.seg.shapeOf
  have HL := hide hl
  have hlen := hl.seg.len
  clear hl
  go_enter Try.func9, Try.ntmps9
  go_wp2_with fail
  go_loopg [3, 4] (l.length + 1) (fun gh nv iv wr => ∃ i n : Nat, iv = .int .i64 (i : Int) ∧ nv = .int .i64 (n : Int) ∧ i ≤ l.length ∧ l.length + 1 ≤ gh + i ∧ n ≤ 140737488365000 ∧ Hid (n = stW (l.take i)) ∧ wr = w)
  case atStart => exact ⟨0, 0, rfl, rfl, by omega, by omega, by omega, (show _ = _ by simp [stW]), rfl⟩
  case round =>
    obtain ⟨i, n, rfl, rfl, hi, hg, hn, HE, rfl⟩ := hrel
    obtain ⟨go, rfl⟩ : ∃ go, gk = go + 1 := ⟨gk - 1, by omega⟩
    by_cases hlt : i < l.length
    · have bt : (i : Int) < (l.length : Int) := by omega
      by_cases h3 : n ≤ 3000
      · have b3 : (n : Int) ≤ 3000 := by omega
        obtain ⟨x, hx⟩ := get_of_lt hlt
        obtain ⟨nb, no, rfl, nlt, -, -, -, e3⟩ := HL.out.seg.stp hx
        have hxl := (HL.out.ok x (List.mem_of_getElem? hx)).rs.len
        have HW := hide (stW_snoc hx)
        unfold Stp.v at e3
        obtain ⟨xl, hxe⟩ : ∃ xl, x.rs.length = xl := ⟨_, rfl⟩
        rw [hxe] at e3 HW hxl
        clear hx hxe
        go_wp2_with fail
        go_roundg go
        case rel => exact ⟨i + 1, n + 1 + xl, by go_num, by go_num, by omega, by omega, by omega, (show _ = _ by rw [HW.out, ← HE.out]; omega), rfl⟩
        case measure => omega
      · have b3 : ¬ (n : Int) ≤ 3000 := by omega
        go_wp2_with fail
        go_ret
        exact ⟨⟨false, rfl, fun e => by cases e⟩, rfl⟩
    · obtain rfl : i = l.length := by omega
      have bt : ¬ ((l.length : Nat) : Int) < (l.length : Int) := by omega
      by_cases h3 : n ≤ 3000
      · have b3 : (n : Int) ≤ 3000 := by omega
        by_cases h2 : l.length ≤ 200
        · have b2 : (l.length : Int) ≤ 200 := by omega
          go_wp2_with fail
          go_ret
          refine ⟨⟨true, rfl, fun _ => ⟨h2, ?_⟩⟩, rfl⟩
          have := HE.out
          rw [List.take_of_length_le (Nat.le_refl _)] at this
          omega
        · have b2 : ¬ (l.length : Int) ≤ 200 := by omega
          go_wp2_with fail
          go_ret
          exact ⟨⟨false, rfl, fun e => by cases e⟩, rfl⟩
      · have b3 : ¬ (n : Int) ≤ 3000 := by omega
        go_wp2_with fail
        go_ret
        exact ⟨⟨false, rfl, fun e => by cases e⟩, rfl⟩
set_option maxHeartbeats 4000000 in
set_option maxRecDepth 100000 in
theorem rec_any (w : World) (n : Int) : Calls Try.prog 27 #[.int .i64 n] w fun e w' => ∃ u, e = .returned u ∧ LSeg 3 Rc.cs w'.heap.size w' u [⟨0, 0, n⟩] ∧ Below w.heap.size w w' := by
  go_enter Try.func27, Try.ntmps27
  go_wp2_with fail
  go_ret
  refine ⟨_, rfl, seg_one (t := 39) _ (BoxT.new _ _ _) (by simp) (fun j u hu => by simpa [Rc.cs] using hu) _, below_box w _⟩
def plc (i n : Int) : Int := if i.tmod n < 0 then i.tmod n + n else i.tmod n
theorem plc_in {i n : Int} (h : 1 ≤ n) : 0 ≤ plc i n ∧ plc i n < n := by
  have h1 := Int.tmod_lt_of_pos i (show 0 < n by omega)
  have h2 : -n < i.tmod n := by
    have := Int.tmod_lt_of_pos (-i) (show 0 < n by omega)
    rw [Int.neg_tmod] at this
    omega
  unfold plc
  split <;> omega
set_option maxHeartbeats 1000000 in
set_option maxRecDepth 100000 in
theorem hPlace_any (w : World) (i : Int) {n : Int} (h : 1 ≤ n) (hn : n ≤ 1000000) : Calls Try.prog 26 #[.int .i64 i, .int .i64 n] w fun e w' => e = .returned (.int .i64 (plc i n)) ∧ w' = w := by
  have hz : n ≠ 0 := by omega
  obtain ⟨k1, k2⟩ := plc_in (i := i) h
  unfold plc at *
  by_cases hm : i.tmod n < 0
  · rw [if_pos hm] at *
    have f1 : wrap64 (i.tmod n + n) = i.tmod n + n := by unfold wrap64; omega
    generalize hR : i.tmod n + n = R at *
    have HR := hide hR
    clear hR
    go_enter Try.func26, Try.ntmps26
    go_wp2_with fail
    go_ret
    exact ⟨ret_int (by first | exact f1 | (rw [HR.out]; exact f1) | exact HR.out), rfl⟩
  · rw [if_neg hm] at *
    go_enter Try.func26, Try.ntmps26
    go_wp2_with fail
    go_ret
    exact ⟨rfl, rfl⟩

end Go.Proofs.Yteafnohponbbeaa

/-
  Place, ready.
-/
import Derived.Test.YtgjjacljjlhnhaaCKnown
namespace Go.Proofs.Ytgjjacljjlhnhaa
open Go.RowKit

def plc (i n : Int) : Int := if i.tmod n < 0 then i.tmod n + n else i.tmod n
theorem plc_in {i n : Int} (h : 1 ≤ n) : 0 ≤ plc i n ∧ plc i n < n := by
  have h1 := Int.tmod_lt_of_pos i (show 0 < n by omega)
  have h2 : -n < i.tmod n := by
    have := Int.tmod_lt_of_pos (-i) (show 0 < n by omega)
    rw [Int.neg_tmod] at this
    omega
  unfold plc
  split <;> omega
set_option maxHeartbeats 1000000 in
set_option maxRecDepth 100000 in
theorem hPlace_any (w : World) (i : Int) {n : Int} (h : 1 ≤ n) (hn : n ≤ 1000000) : Calls Try.prog 9 #[.int .i64 i, .int .i64 n] w fun e w' => e = .returned (.int .i64 (plc i n)) ∧ w' = w := by
  have hz : n ≠ 0 := by omega
  obtain ⟨k1, k2⟩ := plc_in (i := i) h
  unfold plc at *
  by_cases hm : i.tmod n < 0
  · rw [if_pos hm] at *
    have f1 : wrap64 (i.tmod n + n) = i.tmod n + n := by unfold wrap64; omega
    generalize hR : i.tmod n + n = R at *
    have HR := hide hR
    clear hR
    go_enter Try.func9, Try.ntmps9
    go_wp2_with fail
    go_ret
    exact ⟨ret_int (by first | exact f1 | (rw [HR.out]; exact f1) | exact HR.out), rfl⟩
  · rw [if_neg hm] at *
    go_enter Try.func9, Try.ntmps9
    go_wp2_with fail
    go_ret
    exact ⟨rfl, rfl⟩

/-- 0 .. n - 1. -/
def rl (n : Nat) : List Int := (List.range n).map fun (i : Nat) => (i : Int)
theorem rl_succ (n : Nat) : rl (n + 1) = rl n ++ [(n : Int)] := by unfold rl; rw [List.range_succ, List.map_append]; rfl
theorem rl_len (n : Nat) : (rl n).length = n := by unfold rl; simp
theorem rl_get {n i : Nat} (h : i < n) : (rl n)[i]? = some (i : Int) := by unfold rl; simp [h]
theorem rl_mem {n : Nat} {x : Int} : x ∈ rl n ↔ 0 ≤ x ∧ x < n := by
  unfold rl
  simp only [List.mem_map, List.mem_range]
  constructor
  · rintro ⟨a, h, rfl⟩; omega
  · intro h; exact ⟨x.toNat, by omega, by omega⟩
theorem rl_nodup (n : Nat) : (rl n).Nodup := by
  induction n with
  | zero => exact List.nodup_nil
  | succ n ih =>
    rw [rl_succ]
    refine List.nodup_append.2 ⟨ih, by simp, fun a ha b hb e => ?_⟩
    rw [List.mem_singleton] at hb
    have := (rl_mem.1 ha).2
    omega
theorem rl_cons {n : Nat} (h : 1 ≤ n) : ∃ l, rl n = 0 :: l ∧ l.length + 1 = n := by
  obtain ⟨m, rfl⟩ : ∃ m, n = m + 1 := ⟨n - 1, by omega⟩
  refine ⟨(List.range m).map (fun (i : Nat) => ((i + 1 : Nat) : Int)), ?_, by simp⟩
  unfold rl
  rw [List.range_succ_eq_map, List.map_cons, List.map_map]
  rfl
theorem rl64 {n : Nat} (h : n ≤ 1000000) : ∀ x ∈ rl n, In64 x := fun x hx => by
  have := rl_mem.1 hx
  unfold In64
  omega
theorem fresh_rl {n j : Nat} (h : j < n) : fresh (rl n) (rl j).reverse (j : Int) = true := by
  unfold fresh
  rw [cont_rev]
  have h1 : (rl n).contains (j : Int) = true := by simp; exact rl_mem.2 ⟨by omega, by omega⟩
  have h2 : (rl j).contains (j : Int) = false := by
    rw [Bool.eq_false_iff]
    intro h3
    have h4 : (j : Int) ∈ rl j := by simpa using h3
    have := (rl_mem.1 h4).2
    omega
  rw [h1, h2]; rfl
theorem ans_rl {n j : Nat} (h : j < n) : ansL (rl n) (rl j).reverse (j : Int) = (rl (j + 1)).reverse := by
  unfold ansL
  rw [if_pos (fresh_rl h), rl_succ, List.reverse_append]; rfl
theorem ansB_rl {n j : Nat} (h : j < n) : ansB (rl n) (rl j).reverse (j : Int) = decide (j + 1 = n) := by
  unfold ansB
  rw [fresh_rl h, List.length_reverse, rl_len, rl_len, Bool.true_and]
  rw [Bool.eq_iff_iff]; simp
theorem miss_nil2 (l : List Int) : miss l [] = l := by unfold miss; exact List.filter_eq_self.2 (fun _ _ => rfl)
/-- The coordinator of ready, j tasks ready. -/
def rdS (n : Nat) (iv to_ : Nat) (j : Nat) : Cd := ⟨iv, to_, to_, 1, 0, 0, false, 0, 0, 0, rl n, [0], (rl j).reverse, [], []⟩
theorem inn_zero {n : Nat} (h : 1 ≤ n) : inn (once [0]) (rl n) = [0] := by
  have h1 : (rl n).contains 0 = true := by simp; exact rl_mem.2 ⟨by omega, by omega⟩
  show List.filter _ [0] = [0]
  simp only [List.filter_cons, List.filter_nil, h1, if_true]
theorem new_rl {n : Nat} (h : 1 ≤ n) (iv to_ : Int) : cNew (rl n) [0] iv to_ = ⟨bnd iv, bnd to_, bnd to_, 0, 0, 0, false, 0, 0, 0, rl n, [0], [], [], []⟩ := by
  rw [cNew_eq, once_id (rl_nodup n), inn_zero h]
theorem beg_rl {n : Nat} (h : 1 ≤ n) (iv to_ : Int) : cBegS (cNew (rl n) [0] iv to_) 1 0 0 = rdS n (bnd iv) (bnd to_) 0 := by
  rw [new_rl h]; rfl
theorem take_rd {n j iv to_ : Nat} (h : j < n) : cTakeS (rdS n iv to_ j) ⟨6, 1, 0, (j : Int)⟩ = rdS n iv to_ (j + 1) := by
  have e : cTakeS (rdS n iv to_ j) ⟨6, 1, 0, (j : Int)⟩ = { rdS n iv to_ j with rd := ansL (rl n) (rl j).reverse (j : Int) } := rfl
  rw [e, ans_rl h]; rfl
theorem KX.rebase {w0 w1 w : World} {k : Nat} {P : Sh} {s : Cd} {L : List (Value × List Ct)} (h : KX w1 w k P s L) (hb : Below w0.heap.size w0 w1) : KX w0 w k P s L :=
  ⟨h.x, hb.trans (h.b.mono hb.size), fun i hi => Nat.le_trans hb.size (h.f i hi), fun p hp => (h.r p hp).mono hb.size⟩
theorem own_head {w : World} {v : Value} {base : Nat} {x : Int} {l : List Int} (h : OwnL 3 1 i64cs base w v (x :: l)) : ∃ g cap, v = .slice (some ⟨g, 0, none⟩) (l.length + 1) cap ∧ l.length + 1 ≤ cap ∧ LSeg 1 i64cs w.heap.size w (.slice (some ⟨g, 0, none⟩) 1 cap) [x] := by
  rcases h.2 with ⟨rfl, h0⟩ | ⟨g, cap, cur, rfl, h2, h3, h4, h5, h6, h7⟩
  · simp at h0
  · have hb : BoxT 3 w g cur := h3
    refine ⟨g, cap, rfl, h4, ⟨_, _, rfl, by simp, .inr ⟨g, 0, rfl, hb.lt, fun i z hi j u hu => ?_⟩⟩⟩
    match i, hi with
    | 0, hi =>
      obtain rfl : x = z := by simpa using hi
      have h8 := flat_get i64cs_len (x :: l) 0 j x u rfl hu
      rw [← h7, List.getElem?_take] at h8
      split at h8
      · rw [hb.cellAt]; simpa using h8
      · cases h8
    | i + 1, hi => simp at hi
set_option maxHeartbeats 4000000 in
set_option maxRecDepth 100000 in
theorem ready_any (w : World) {n : Nat} (hn : 1 ≤ n) (hn2 : n ≤ 1000) (iv to_ : Int) :
    Calls Try.prog 19 #[.int .i64 (n : Int), .int .i64 iv, .int .i64 to_] w fun r w' => ∃ k P, r = .returned (.pointer (some ⟨k, 0, none⟩)) ∧ KX w w' k P (rdS n (bnd iv) (bnd to_) n) [] := by
  go_enter Try.func19, Try.ntmps19
  go_wp2_with fail
  go_loopg [7, 8] (n + 1) (fun gh uv iv wr => ∃ i : Nat, iv = .int .i64 (i : Int) ∧ i ≤ n ∧ n + 1 ≤ gh + i ∧ Hid (OwnL 3 1 i64cs w.heap.size wr uv (rl i)) ∧ Hid (Below w.heap.size w wr))
  case atStart => exact ⟨0, rfl, by omega, by omega, (show OwnL _ _ _ _ _ _ _ from OwnL.nil _ _ _ _ _), Below.refl _ _⟩
  case round =>
    obtain ⟨i, rfl, hi, hg, HO, HB⟩ := hrel
    obtain ⟨go, rfl⟩ : ∃ go, gk = go + 1 := ⟨gk - 1, by omega⟩
    by_cases hlt : i < n
    · have bt : (i : Int) < (n : Int) := by omega
      have HNW := hide (newI wr (i : Int))
      have HLN : Hid ((rl i).length ≤ 1000000) := hide (by rw [rl_len]; omega)
      have HBS : Hid (∀ o, w.heap.size ≤ (wr.alloc o).heap.size) := hide (fun o => by have := HB.out.size; simp; omega)
      go_wp2_with (first | (at_builtin; refine app_L Try.infoI Try.underlying25 rfl (by decide) (by decide) i64cs_len i64cs_one rfl _ _ rfl w.heap.size _ _ rfl (HO.out.alloc _) _ _ (i : Int) rfl HNW.out HLN.out (HBS.out _) ?_; intro v4 w4 h4 g4 k4; have H4 := hide h4; have B4 := hide (HB.out.trans ((below_box wr _).mono HB.out.size) |>.grown g4 (HBS.out _) (fun g e => HO.out.at g e)); clear h4 g4 k4) | fail)
      go_roundg go
      case rel => exact ⟨i + 1, by go_num, by omega, by omega, (show OwnL _ _ _ _ _ _ _ by rw [rl_succ]; exact H4.out), B4⟩
      case measure => omega
    · obtain rfl : i = n := by omega
      have bt : ¬ ((i : Nat) : Int) < (i : Int) := by omega
      obtain ⟨l, hl, hll⟩ := rl_cons hn
      have ho := HO.out
      rw [hl] at ho
      obtain ⟨g, cap, rfl, hcap, hseg⟩ := own_head ho
      rw [hll] at hcap HO
      have HSG := hide hseg
      have HRL : Hid (LSeg 1 i64cs wr.heap.size wr (.slice (some ⟨g, 0, none⟩) i cap) (rl i)) := hide (HO.out.seg i64cs_len (by rw [rl_len]; omega))
      have HN1 := hide hn
      have HN2 := hide hn2
      clear ho hseg hl HO
      rw [hll]
      clear hll
      have k1 : 1 ≤ cap := by omega
      go_wp2_with (first | (go_at_call 10; refine (KX.made HB.out HRL.out (Nat.le_refl _) HSG.out (Nat.le_refl _) (by rw [rl_len]; have := HN2.out; omega) (by simp) (rl64 (by have := HN2.out; omega)) (by intro x hx; simp at hx; subst hx; unfold In64; omega) iv to_ rfl).mono ?_; rintro r w5 ⟨k, P, rfl, k5, -, -⟩; have A0 := hide k5; clear k5) | (go_at_call 14; refine (A0.out.begin 1 0 0 (beg_rl HN1.out iv to_) rfl).mono ?_; rintro r w6 ⟨u6, rfl, k6⟩; have A1 := hide k6.drop; clear k6 A0) | fail)
      go_loopg [10] (i + 1) (fun gh jv wq => ∃ j : Nat, jv = .int .i64 (j : Int) ∧ j ≤ i ∧ i + 1 ≤ gh + j ∧ Hid (KX w wq k P (rdS i (bnd iv) (bnd to_) j) []))
      case atStart => exact ⟨0, rfl, by omega, by omega, A1⟩
      case round =>
        obtain ⟨j, rfl, hj, hg2, HA⟩ := hrel
        obtain ⟨go2, rfl⟩ : ∃ go2, gk = go2 + 1 := ⟨gk - 1, by omega⟩
        by_cases hjl : j < i
        · have bj : (j : Int) < (i : Int) := by omega
          have HJ := hide hjl
          go_wp2_with (first | (go_at_call 16; refine (HA.out.take ⟨6, 1, 0, (j : Int)⟩ (show In64 (j : Int) by have := HN2.out; have := HJ.out; unfold In64; omega) (take_rd HJ.out) rfl).mono ?_; rintro r w7 ⟨rfl, k7⟩; have A7 := hide k7; clear k7) | fail)
          go_roundg go2
          case rel => exact ⟨j + 1, by go_num, by omega, by omega, A7⟩
          case measure => omega
        · obtain rfl : j = i := by omega
          have bj : ¬ ((j : Nat) : Int) < (j : Int) := by omega
          go_wp2_with fail
          go_ret
          exact ⟨k, rfl, P, HA.out⟩

end Go.Proofs.Ytgjjacljjlhnhaa

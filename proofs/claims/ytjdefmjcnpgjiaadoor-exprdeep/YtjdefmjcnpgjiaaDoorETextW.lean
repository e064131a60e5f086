/-
  text: the text of an expression that is checked.
-/
import Derived.Test.YtjdefmjcnpgjiaaDoorEValue
import Derived.Test.YtjdefmjcnpgjiaaDoorShelf
import Derived.Deep.OwnRows
import Derived.Lib.AppendIntMem
import Derived.Lib.ItoaLen
namespace Go.Proofs.YtjdefmjcnpgjiaaDoor
open Go.RowKit

/-- The tables that texts are made with, as they lie. -/
structure Glob (w : World) : Prop where
  words : ∀ i : Nat, 1 ≤ i → i ≤ 14 → w.cell? ⟨0, i, none⟩ = some (.string ⟨(wrd i).toArray⟩)
  tab : Lib.TabIs Tryd.prog w "internal/strconv.uint64pow10" .u64 Lib.pow10Tab
theorem Glob.below {w w' : World} (h : Glob w) (hb : Below w.heap.size w w') : Glob w' :=
  ⟨fun i h1 h2 => (hb.cell (p := ⟨0, i, none⟩) (cell_lt (h.words i h1 h2))).trans (h.words i h1 h2), Lib.tabBelow_of_tabIs h.tab w' hb⟩

theorem ret_str {a b : List UInt8} (h : a = b) : Ending.returned (.string ⟨a.toArray⟩) = .returned (.string ⟨b.toArray⟩) := by rw [h]

/-! ### How long a text is -/
theorem join_len (l : List (List UInt8)) : (Lib.join l [44, 32]).length ≤ (l.map List.length).sum + 2 * l.length := by
  cases l with
  | nil => simp [Lib.join_nil]
  | cons x r =>
    rw [Lib.join_cons]
    have e : r.map (fun x => x.length) = r.map List.length := rfl
    simp only [List.length_append, Lib.joinTail_length, Lib.lens, List.map_cons, List.sum_cons, List.length_cons, List.length_nil, e]
    omega
theorem ite_len {c : Prop} [Decidable c] {a b : List UInt8} (h1 : a.length ≤ 4) (h2 : b.length ≤ 4) : (if c then a else b).length ≤ 4 := by
  by_cases h : c
  · rw [if_pos h]; exact h1
  · rw [if_neg h]; exact h2
theorem wrd_len (op : Int) : (wrd op).length ≤ 4 := by
  unfold wrd
  repeat' (first | decide | apply ite_len)
theorem txt_len (e : Ex) : (∀ x ∈ e.sub, -9223372036854775808 ≤ x.n ∧ x.n ≤ 9223372036854775807) → formed e = true → (txt e).length ≤ 30 * size e := by
  refine Ex.ind (P := fun e => (∀ x ∈ e.sub, -9223372036854775808 ≤ x.n ∧ x.n ≤ 9223372036854775807) → formed e = true → (txt e).length ≤ 30 * size e) ?_ e
  intro op n a c l ih hn hf
  have hs := formed_self hf
  have hk : ∀ x ∈ l, (txt x).length ≤ 30 * size x := fun x hx => ih x hx (fun y hy => hn y (Ex.sub_kid (e := ⟨op, n, a, c, l⟩) hx y hy)) (formed_kid hf hx)
  have hsum : ((l.map txt).map List.length).sum ≤ 30 * (l.map size).sum := by
    clear ih hn hf hs
    induction l with
    | nil => simp
    | cons x r ihr =>
      have h1 := hk x (by simp)
      have h2 := ihr (fun y hy => hk y (List.mem_cons_of_mem _ hy))
      simp only [List.map_cons, List.sum_cons] at h2 ⊢
      omega
  have hw := wrd_len op
  have hj := join_len (l.map txt)
  rw [List.length_map] at hj
  rw [txt_mk, size_mk]
  unfold txt1
  rcases snd1_parts hs with ⟨h1, h2⟩ | ⟨h1, h2, h3⟩ | ⟨h1, h2, h3, h4⟩
  · rw [if_pos h1]
    have := Lib.itoa_length_le n (hn ⟨op, n, a, c, l⟩ (Ex.sub_self _)).1 (hn ⟨op, n, a, c, l⟩ (Ex.sub_self _)).2
    simp only [List.length_cons]
    omega
  · have h5 : ¬ op = 1 := by rcases h1 with h | h | h <;> subst h <;> decide
    rw [if_neg h5, if_pos h1]
    omega
  · rw [if_neg h1, if_neg h2]
    have h5 : l.length ≤ 3 := by
      simp only at h4
      omega
    simp only [List.length_append, List.length_cons, List.length_nil]
    omega
theorem In.nums {w : World} {e : Ex} (h : In w e) : ∀ x ∈ e.sub, -9223372036854775808 ≤ x.n ∧ x.n ≤ 9223372036854775807 := fun x hx => ⟨(h x hx).n1, (h x hx).n2⟩
theorem size_kid {e x : Ex} (h : x ∈ e.l) : size x < size e := by
  obtain ⟨op, n, a, c, l⟩ := e
  rw [size_mk]
  have h : x ∈ l := h
  have : size x ≤ (l.map size).sum := by
    induction l with
    | nil => cases h
    | cons y r ih =>
      rcases List.mem_cons.1 h with rfl | h'
      · simp
      · have := ih h' h'
        simp only [List.map_cons, List.sum_cons]
        omega
  omega
theorem app_str (a b : List UInt8) : (⟨a.toArray⟩ : ByteArray) ++ ⟨b.toArray⟩ = ⟨(a ++ b).toArray⟩ := by
  apply ByteArray.ext
  simp
theorem Tryd.info9' : (Tryd.prog.info? 9).map (fun i => (i.zero, i.size, i.bytes)) = some (some (.string ⟨#[]⟩), 1, 16) := by kernel_rfl
theorem join_sum (l : List (List UInt8)) : ∀ x ∈ l, x.length ≤ (Lib.join l [44, 32]).length := by
  cases l with
  | nil => intro x h; cases h
  | cons y r =>
    intro x h
    rw [Lib.join_cons]
    rcases List.mem_cons.1 h with rfl | h
    · simp
    · have e : r.map (fun x => x.length) = r.map List.length := rfl
      simp only [List.length_append, Lib.joinTail_length, Lib.lens, e]
      have : x.length ≤ (r.map List.length).sum := by
        clear e
        induction r with
        | nil => cases h
        | cons z q ih =>
          rcases List.mem_cons.1 h with rfl | h
          · simp
          · have := ih (List.mem_cons_of_mem _ (by assumption)) h
            simp only [List.map_cons, List.sum_cons]
            omega
      omega

set_option maxHeartbeats 4000000 in
set_option maxRecDepth 100000 in
theorem text_any (e : Ex) : ∀ (w : World), In w e → formed e = true → size e ≤ 1000 → Glob w →
    Calls Tryd.prog 27 #[e.val] w fun v w' => v = .returned (.string ⟨(txt e).toArray⟩) ∧ Below w.heap.size w w' := by
  refine Ex.ind (P := fun e => ∀ (w : World), In w e → formed e = true → size e ≤ 1000 → Glob w →
    Calls Tryd.prog 27 #[e.val] w fun v w' => v = .returned (.string ⟨(txt e).toArray⟩) ∧ Below w.heap.size w w') ?_ e
  intro op m a c l ih w hin hf hsz hg
  have hs : snd1 op m l.length = true := formed_self hf
  have hlen := txt_len _ hin.nums hf
  have hops := ops_of hs
  have hbA := below1 w (.cells #[.int .i64 op, .int .i64 m, .slice a l.length c] 24)
  have h0 : 0 < w.heap.size := cell_lt (hg.words 1 (by omega) (by omega))
  have HB := hide hbA
  have HG := hide (hg.below hbA)
  rw [txt_mk] at hlen ⊢
  unfold Ex.val
  have hwl := wrd_len op
  rcases snd1_parts hs with ⟨h1, h2⟩ | ⟨h1, h2, h3⟩ | ⟨h1, h2, h3, h4⟩
  · subst h1
    have hw1 : w.cell? ⟨0, 1, none⟩ = some (.string ⟨(wrd 1).toArray⟩) := hg.words 1 (by omega) (by omega)
    have hn := hin.nums _ (Ex.sub_self _)
    simp only at hn
    obtain ⟨hn1, hn2⟩ := hn
    have hfm := hide (Tryd.strconv_FormatInt_10 m hn1 hn2 _ HG.out.tab)
    have htl := Lib.itoa_length_le m hn1 hn2
    have hr : txt1 1 m (l.map txt) = wrd 1 ++ Lib.itoa m := rfl
    rw [hr]
    clear h2 hs hops hbA hg hin ih hf hlen hr
    generalize wrd 1 = W at *
    generalize Lib.itoa m = T at *
    have hcat : ¬ (9223372036854775807 < W.length + T.length) := by omega
    go_enter Tryd.func27, Tryd.ntmps27
    go_wp2_with (go_at_call 32; refine hfm.out.mono ?_; rintro e w2 ⟨rfl, kk, os, rfl⟩)
    go_ret
    refine ⟨?_, HB.out.trans ((Lib.below_grow _ _ (Nat.le_refl _) kk os).mono (by simp))⟩
    rw [← app_str]
    rfl
  · have hr : txt1 op m (l.map txt) = wrd op := by
      have h5 : ¬ op = 1 := by rcases h1 with h | h | h <;> subst h <;> decide
      unfold txt1
      rw [if_neg h5, if_pos h1]
    have hl : l = [] := List.length_eq_zero_iff.1 h3
    subst hl
    rw [hr]
    clear h2 h3 hs hops hbA hin ih hf hlen hr
    rcases h1 with rfl | rfl | rfl
    · have hw1 : w.cell? ⟨0, 2, none⟩ = some (.string ⟨(wrd 2).toArray⟩) := hg.words 2 (by omega) (by omega)
      clear hg
      generalize wrd 2 = W at *
      go_enter Tryd.func27, Tryd.ntmps27
      go_wp2
      go_ret
      exact ⟨rfl, HB.out⟩
    · have hw1 : w.cell? ⟨0, 3, none⟩ = some (.string ⟨(wrd 3).toArray⟩) := hg.words 3 (by omega) (by omega)
      clear hg
      generalize wrd 3 = W at *
      go_enter Tryd.func27, Tryd.ntmps27
      go_wp2
      go_ret
      exact ⟨rfl, HB.out⟩
    · have hw1 : w.cell? ⟨0, 4, none⟩ = some (.string ⟨(wrd 4).toArray⟩) := hg.words 4 (by omega) (by omega)
      clear hg
      generalize wrd 4 = W at *
      go_enter Tryd.func27, Tryd.ntmps27
      go_wp2
      go_ret
      exact ⟨rfl, HB.out⟩
  · obtain ⟨k, rfl⟩ : ∃ k : Nat, op = (k : Int) := ⟨op.toNat, by omega⟩
    have hk1 : 1 ≤ k := by omega
    have hk2 : k ≤ 14 := by omega
    have hk3 : (k : Int) < 15 := by omega
    have hw1 := hg.words k hk1 hk2
    have hr : txt1 k m (l.map txt) = wrd k ++ (40 :: (Lib.join (l.map txt) [44, 32] ++ [41])) := by
      unfold txt1
      rw [if_neg h1, if_neg h2]
    have hl03 : 0 < l.length ∧ l.length ≤ 3 := by rcases h4 with ⟨_, h⟩ | ⟨_, h⟩ <;> omega
    obtain ⟨hl0, hl3⟩ := hl03
    have hke1 : ((k : Int) == 1) = false := by simp; omega
    have hle0 : ((l.length : Int) == 0) = false := by rw [beq0]; exact decide_eq_false (by omega)
    rw [hr] at hlen ⊢
    simp only [List.length_append, List.length_cons, List.length_nil] at hlen
    have hkid := hide (fun x (hx : x ∈ l) w hw hgw => ih x hx w hw (formed_kid hf hx) (by have := size_kid (e := ⟨k, m, a, c, l⟩) hx; omega) hgw)
    have HIN := hide hin
    have HW0 := hide hg
    have hmk := run_make_row' (P := Tryd.prog) 49 9 (.string ⟨#[]⟩) 16 Tryd.underlying49 Tryd.info9' rfl .i64 .i64 l.length (by omega) (by omega)
    have hjl : (Lib.join (l.map txt) [44, 32]).length ≤ 30000 := by omega
    clear h3 h4 hs hops hbA hin ih hf hlen hr hg hsz h2
    generalize wrd k = W at *
    go_enter Tryd.func27, Tryd.ntmps27
    go_wp2_with fail
    go_loopw [33] (fun i wr => ∃ j : Nat, j ≤ l.length ∧ i = .int .i64 j ∧ Below w.heap.size w wr ∧ Hid (wr.rowIs (w.heap.size + 1) 9 l.length (fun i => if i < j then .string ⟨((l.map txt).getD i []).toArray⟩ else .string ⟨#[]⟩))) (fun i _ => l.length - (intOf i).toNat)
    case atStart =>
      refine ⟨0, Nat.zero_le _, rfl, HB.out.alloc (by simp) _, ?_⟩
      have h := World.rowIs_made (w.alloc (.cells #[.int .i64 (k : Int), .int .i64 m, .slice a l.length c] 24)) (.string ⟨#[]⟩) l.length 9
      rw [show (w.alloc (.cells #[.int .i64 (k : Int), .int .i64 m, .slice a l.length c] 24)).heap.size = w.heap.size + 1 from by simp] at h
      exact h.congr fun i hi => by rw [if_neg (by omega)]
    case round =>
      obtain ⟨j, hj, rfl, hbel, HR⟩ := hrel
      by_cases hlt : j < l.length
      · obtain ⟨x, hx⟩ : ∃ x, l[j]? = some x := ⟨_, List.getElem?_eq_getElem hlt⟩
        obtain ⟨b, o, ha, e0, e1, e2⟩ := HIN.out.self.at_ j x hx
        simp only at ha
        subst ha
        have hlb := cell_lt e0
        have c0 := (hbel.cell (p := ⟨b, o + j * 3, none⟩) hlb).trans e0
        have c1 := (hbel.cell (p := ⟨b, o + j * 3 + 1, none⟩) hlb).trans e1
        have c2 := (hbel.cell (p := ⟨b, o + j * 3 + 2, none⟩) hlb).trans e2
        have hxm : x ∈ l := List.mem_of_getElem? hx
        have HX := hide hx
        have hkx := hide (fun w h hg => hkid.out x hxm w h hg)
        have hinx := hide ((HIN.out.kid hxm).below hbel)
        have hgx := hide (HW0.out.below hbel)
        clear e0 e1 e2 hxm hx
        obtain ⟨xo, xn, xa, xc, xl⟩ := x
        simp only at c0 c1 c2
        have hbA2 := below1 wr (.cells #[.int .i64 xo, .int .i64 xn, .slice xa xl.length xc] 24)
        have HA2 := hide hbA2
        have HC := hide (hkx.out _ (hinx.out.below hbA2) (hgx.out.below hbA2))
        clear hbA2
        go_wp2_with fail
        go_at_call 27
        refine HC.out.mono ?_
        rintro e w3 ⟨rfl, hb3⟩
        have hrl := HR.out.lt
        have hb4 := hide (HA2.out.trans (hb3.mono HA2.out.size))
        have hrow := HR.out.of_block (hb4.out.block _ hrl)
        have hfr := hrow.frozen j
        have hcl := hrow.cell hlt
        have HRW := hide hrow
        have hb5 := hide (hbel.trans (hb4.out.mono hbel.size))
        clear hrow hb3
        go_wp2_with fail
        go_roundw
        case rel =>
          refine ⟨j + 1, by omega, by go_num, hb5.out.setCell (by simp) _, ?_⟩
          refine (HRW.out.set j _).congr fun i hi => ?_
          by_cases hij : i = j
          · subst hij
            rw [if_pos rfl, if_pos (by omega), List.getD_eq_getElem?_getD, List.getElem?_map, HX.out]
            rfl
          · rw [if_neg hij]
            by_cases h1 : i < j
            · rw [if_pos h1, if_pos (by omega)]
            · rw [if_neg h1, if_neg (by omega)]
        case measure => simp [intOf]; omega
      · obtain rfl : j = l.length := by omega
        have hcells : ∀ (i : Nat) (x : ByteArray), (l.map fun x => (⟨(txt x).toArray⟩ : ByteArray))[i]? = some x → wr.cell? ⟨w.heap.size + 1, 0 + i, none⟩ = some (.string x) := by
          intro i x hx
          rw [List.getElem?_map] at hx
          obtain ⟨y, hy, rfl⟩ := Option.map_eq_some_iff.1 hx
          have hi : i < l.length := (List.getElem?_eq_some_iff.1 hy).1
          rw [Nat.zero_add, HR.out.cell hi, if_pos hi, List.getD_eq_getElem?_getD, List.getElem?_map, hy]
          rfl
        have hjm : (l.map fun x => (⟨(txt x).toArray⟩ : ByteArray)).map (·.data.toList) = l.map txt := by
          rw [List.map_map]
          exact List.map_congr_left fun x _ => by simp
        have hJ := Tryd.strings_Join (w.heap.size + 1) 0 l.length (l.map fun x => (⟨(txt x).toArray⟩ : ByteArray)) ⟨#[44, 32]⟩ wr hcells HR.out.lt (by rw [List.length_map]; omega) (by rw [List.length_map]; omega) (by rw [hjm]; exact Nat.le_trans hjl (by omega))
        rw [hjm, List.length_map] at hJ
        have hJ' : Calls Tryd.prog 33 #[.slice (some ⟨w.heap.size + 1, 0, none⟩) l.length l.length, .string ⟨#[44, 32]⟩] wr fun e w' => e = .returned (.string ⟨(Lib.join (l.map txt) [44, 32]).toArray⟩) ∧ Below wr.heap.size wr w' := hJ
        have HJ := hide hJ'
        clear hJ hJ' hcells hjm
        obtain ⟨J, hJe⟩ : ∃ J, Lib.join (l.map txt) [44, 32] = J := ⟨_, rfl⟩
        rw [hJe] at hjl HJ
        have HJe := hide hJe
        clear hJe
        have hc1 : ¬ (9223372036854775807 < W.length + 1) := by omega
        have hc2 : ¬ (9223372036854775807 < W.length + 1 + J.length) := by omega
        have hc3 : ¬ (9223372036854775807 < W.length + 1 + J.length + 1) := by omega
        go_wp2_with (go_at_call 33; refine HJ.out.mono ?_; rintro e w2 ⟨rfl, hb2⟩)
        go_ret
        refine ⟨?_, hbel.trans (hb2.mono hbel.size)⟩
        have e1 : (⟨W.toArray⟩ : ByteArray) ++ ⟨#[40]⟩ ++ ⟨J.toArray⟩ ++ ⟨#[41]⟩ = ⟨(W ++ (40 :: (J ++ [41]))).toArray⟩ := by
          rw [show (⟨#[40]⟩ : ByteArray) = ⟨[40].toArray⟩ from rfl, show (⟨#[41]⟩ : ByteArray) = ⟨[41].toArray⟩ from rfl, app_str, app_str, app_str]
          simp
        rw [HJe.out, ← e1]
        rfl
end Go.Proofs.YtjdefmjcnpgjiaaDoor

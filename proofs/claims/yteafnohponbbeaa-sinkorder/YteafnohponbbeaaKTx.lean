/-
  Records, transactions; the greatest number of a part.
-/
import Derived.Test.YteafnohponbbeaaKRow
import Derived.Test.YteafnohponbbeaaKMapW
namespace Go.Proofs.Yteafnohponbbeaa
open Go.RowKit

theorem step_L {α : Type} {t sl sz by_ : Nat} {z : Value} {cs : α → List Value} (hinfo : (Try.prog.info? t).map (fun i => (i.zero, i.size, i.bytes)) = some (some z, sz, by_)) (hund : Try.prog.underlying sl = some (.slice t)) (hz : z.cells.size = sz) (hsz : 0 < sz) (hby : by_ ≤ 100)
    (hcs : ∀ x, (cs x).length = sz) (h1c : ∀ x, ∀ u ∈ cs x, u.oneCell' = true) {w : World} {ops : Array Oper} {o : Oper} {a : Act} {K : Act → World → Prop} {Q : Exit → Act → World → Prop} {E : Prop} (hgd : o.guard = none) (s x : Operand)
    (ho : o.op = .call { callee := .builtin .append, args := #[s, x], argTypes := #[sl, sl] }) (base : Nat) (v : Value) (xs : List α) (hs : a.eval s = v) (hown : OwnL t sz cs base w v xs)
    (B : Nat) (v2 : Value) (ys : List α) (hx : a.eval x = v2) (hseg : LSeg sz cs B w v2 ys) (hl : xs.length + ys.length ≤ 1000000) (hbase : base ≤ w.heap.size)
    (h : ∀ v' w', OwnL t sz cs base w' v' (xs ++ ys) → w.grownBy w' v.ownBlock → (v'.ownBlock = v.ownBlock ∨ v'.ownBlock = some w.heap.size) → K (a.put o.dst v') w') :
    if Region.wanted o (yielded ops a.tmps) = true then Oper.wp Try.prog o a w K Q else E := by
  have hw : Region.wanted o (yielded ops a.tmps) = true := by simp [Region.wanted, hgd]
  rw [if_pos hw]
  obtain ⟨v', w', hr, h2, h3, h4⟩ := run_segL hinfo hund hz hsz hby hcs h1c o.type base hown hseg hl hbase
  unfold Oper.wp execOp
  simp only [ho, resolve, invoke, builtin, Sem.run_bind, Sem.run_pure, Result.andThen_ok, List.map_toArray, List.map_cons, List.map_nil, hs, hx, hr]
  exact h v' w' h2 h3 h4
theorem seg_one {α : Type} {t sz : Nat} {cs : α → List Value} {w : World} {n B : Nat} {ca : Array Value} (x : α) (hb : BoxT t w n ca) (hB : n < B) (hc : ∀ (j : Nat) (u : Value), (cs x)[j]? = some u → ca[j]? = some u) (c : Nat) : LSeg sz cs B w (.slice (some ⟨n, 0, none⟩) 1 c) [x] := by
  refine ⟨_, _, rfl, by simp, .inr ⟨n, 0, rfl, hB, fun i y hi j u hu => ?_⟩⟩
  match i, hi with
  | 0, hi =>
    obtain rfl : x = y := by simpa using hi
    rw [hb.cellAt]
    simpa using hc j u hu
  | i + 1, hi => simp at hi

theorem BoxT.ne {t t' : TypeId} {w : World} {k k' : Nat} {cs cs' : Array Value} (h : BoxT t w k cs) (h' : BoxT t' w k' cs') (ht : t ≠ t') : k ≠ k' := fun e => by
  subst e
  unfold BoxT at h h'
  rw [h] at h'
  simp at h'
  exact ht h'.2
theorem BoxT.back {t : TypeId} {w w' : World} {k : Nat} {cs : Array Value} (h : BoxT t w k cs) (hb : w'.heap[k]? = w.heap[k]?) : BoxT t w' k cs := by
  unfold BoxT at *
  rw [hb]; exact h
theorem BoxT.cells3 {t : TypeId} {w : World} {k : Nat} {c0 c1 c2 : Value} (h : BoxT t w k #[c0, c1, c2]) : w.cell? ⟨k, 0, none⟩ = some c0 ∧ w.cell? ⟨k, 1, none⟩ = some c1 ∧ w.cell? ⟨k, 2, none⟩ = some c2 := by
  unfold BoxT at h
  simp [World.cell?, h]
theorem BoxT.cells1 {t : TypeId} {w : World} {k : Nat} {c0 : Value} (h : BoxT t w k #[c0]) : w.cell? ⟨k, 0, none⟩ = some c0 := by
  unfold BoxT at h
  simp [World.cell?, h]
theorem cell_alloc {w : World} {a : Addr} {v : Value} (h : w.cell? a = some v) (o : Obj) : (w.alloc o).cell? a = some v := by
  have hl : a.block < w.heap.size := by
    rcases Nat.lt_or_ge a.block w.heap.size with h1 | h1
    · exact h1
    · rw [World.cell?, Array.getElem?_eq_none h1] at h; cases h
  rw [World.cell?] at h ⊢
  rw [Below.heap_alloc w o _ hl]; exact h
theorem OwnL.own {α : Type} {t sz : Nat} {cs : α → List Value} {base : Nat} {w : World} {v : Value} {xs : List α} (h : OwnL t sz cs base w v xs) : OwnL t sz cs 0 w v xs := h.mono (Nat.zero_le _)
theorem FT.grow {fp : Nat → Prop} {a b : World} {o : Option Nat} (h : a.grownBy b o) (hv : ∀ g, o = some g → fp g) : FT fp fp a b :=
  ⟨h.os, h.tape, h.output, h.size, fun i hi hn => h.block i hi (fun e => hn (hv i e.symm)), fun _ h => .inl h⟩
theorem FT.to_ {fp fp' : Nat → Prop} {a b : World} (h : FT fp fp a b) (hs : ∀ i, fp' i → fp i ∨ a.heap.size ≤ i) : FT fp fp' a b := ⟨h.os, h.tape, h.output, h.size, h.block, hs⟩
theorem FT.set {fp : Nat → Prop} (w : World) {k : Nat} (hk : fp k) (j : Nat) (u : Value) : FT fp fp w (w.setCell ⟨k, j, none⟩ u) := FT.of_grown (grownBy_set w k j u) hk
theorem OwnL.otherBox {α : Type} {t t' sz : Nat} {cs : α → List Value} {base : Nat} {w : World} {v : Value} {xs : List α} (h : OwnL t sz cs base w v xs) {k : Nat} {ca : Array Value} (hk : BoxT t' w k ca) (ht : t ≠ t') (j : Nat) (u : Value) : OwnL t sz cs base (w.setCell ⟨k, j, none⟩ u) v xs := by
  refine h.back (fun g e => Below.heap_setCell w ⟨k, j, none⟩ u g (fun e2 => ?_))
  obtain ⟨cur, hc⟩ := h.has g e
  exact BoxT.ne (t := t) (t' := t') hc hk ht e2
/-- A record; a transaction: its number, where its records lie, its records. -/
structure Rc where
  k : Int
  t : Int
  v : Int
def Rc.cs (r : Rc) : List Value := [.int .i64 r.k, .int .i64 r.t, .int .i64 r.v]
theorem Rc.cs_len (r : Rc) : r.cs.length = 3 := rfl
theorem Rc.cs_one (n : Rc) : ∀ u ∈ n.cs, u.oneCell' = true := by
  intro u hu
  simp only [Rc.cs, List.mem_cons, List.not_mem_nil, or_false] at hu
  rcases hu with rfl | rfl | rfl <;> rfl
structure Tx where
  n : Nat
  a : Option Addr
  c : Nat
  rs : List Rc
def Tx.v (x : Tx) : Value := .slice x.a x.rs.length x.c
def Tx.cs (x : Tx) : List Value := [.int .u64 (x.n : Int), x.v]
theorem Tx.cs_len (x : Tx) : x.cs.length = 2 := rfl
theorem Tx.cs_one (x : Tx) : ∀ u ∈ x.cs, u.oneCell' = true := by
  intro u hu
  simp only [Tx.cs, List.mem_cons, List.not_mem_nil, or_false] at hu
  rcases hu with rfl | rfl <;> rfl
/-- Its records' slice alone. -/
def Tx.c1 (x : Tx) : List Value := [x.v]
theorem Tx.c1_len (x : Tx) : x.c1.length = 1 := rfl
theorem Tx.c1_one (x : Tx) : ∀ u ∈ x.c1, u.oneCell' = true := by
  intro u hu
  simp only [Tx.c1, List.mem_cons, List.not_mem_nil, or_false] at hu
  subst hu; rfl
def u64cs (x : Nat) : List Value := [.int .u64 (x : Int)]
theorem u64cs_len (x : Nat) : (u64cs x).length = 1 := rfl
theorem u64cs_one (x : Nat) : ∀ u ∈ u64cs x, u.oneCell' = true := by intro u hu; simp [u64cs] at hu; subst hu; rfl
theorem Try.infoRc : (Try.prog.info? 39).map (fun i => (i.zero, i.size, i.bytes)) = some (some (.agg #[.int .i64 0, .int .i64 0, .int .i64 0]), 3, 24) := by kernel_rfl
theorem Try.infoTx : (Try.prog.info? 69).map (fun i => (i.zero, i.size, i.bytes)) = some (some (.agg #[.int .u64 0, .slice none 0 0]), 2, 32) := by kernel_rfl
theorem Try.infoRs : (Try.prog.info? 29).map (fun i => (i.zero, i.size, i.bytes)) = some (some (.slice none 0 0), 1, 24) := by kernel_rfl
theorem Try.infoU : (Try.prog.info? 32).map (fun i => (i.zero, i.size, i.bytes)) = some (some (.int .u64 0), 1, 8) := by kernel_rfl
theorem Try.infoTs : (Try.prog.info? 63).map (fun i => (i.zero, i.size, i.bytes)) = some (some (.slice none 0 0), 1, 24) := by kernel_rfl
theorem LSeg.tx {B : Nat} {w : World} {ao : Option Addr} {n cap : Nat} {xs : List Tx} (h : LSeg 2 Tx.cs B w (.slice ao n cap) xs) {i : Nat} {x : Tx} (hx : xs[i]? = some x) : ∃ b o, ao = some ⟨b, o, none⟩ ∧ b < B ∧ w.cell? ⟨b, o + i * 2, none⟩ = some (.int .u64 (x.n : Int)) ∧ w.cell? ⟨b, o + i * 2 + 1, none⟩ = some x.v := by
  obtain ⟨b, o, e, hb, _, d⟩ := h.readAt hx
  exact ⟨b, o, e, hb, d 0 _ rfl, d 1 _ rfl⟩
/-- The greatest number of a part. -/
def gr (last : Nat) (l : List Tx) : Nat := match l.getLast? with | none => last | some x => x.n
theorem gr_nil (last : Nat) : gr last [] = last := rfl
theorem gr_at {last : Nat} {l : List Tx} {x : Tx} (h : l[l.length - 1]? = some x) : gr last l = x.n := by
  unfold gr
  rw [List.getLast?_eq_getElem?, h]
set_option maxHeartbeats 4000000 in
set_option maxRecDepth 100000 in
theorem great_any {w : World} {B : Nat} {cv sv : Value} {last : Nat} {l : List Tx} (hl : LSeg 2 Tx.cs B w sv l) (hB : B ≤ w.heap.size) :
    Calls Try.prog 28 #[.agg #[cv, sv, .int .u64 (last : Int)]] w fun e w' => e = .returned (.int .u64 (gr last l : Int)) ∧ Below w.heap.size w w' := by
  obtain ⟨ao, cap, rfl⟩ := hl.shapeOf
  have hb1 := below_box w (.cells #[cv, .slice ao l.length cap, .int .u64 (last : Int)] 65)
  have hbx : BoxT 65 (w.alloc (.cells #[cv, .slice ao l.length cap, .int .u64 (last : Int)] 65)) w.heap.size #[cv, .slice ao l.length cap, .int .u64 (last : Int)] := BoxT.new _ _ _
  obtain ⟨b0, b1, b2⟩ := hbx.cells3
  have h1 := hl.below (hb1.mono hB)
  have hlen := hl.len
  have HB := hide hb1
  clear hb1 hbx hl
  cases hc : l with
  | nil =>
    subst hc
    clear h1
    go_enter Try.func28, Try.ntmps28
    go_wp2_with fail
    go_ret
    exact ⟨rfl, HB.out⟩
  | cons y ys =>
    have hn : 0 < l.length := by rw [hc]; simp
    rw [← hc]
    clear hc
    obtain ⟨x, hx⟩ := get_of_lt (show l.length - 1 < l.length by omega)
    obtain ⟨nb, no, rfl, nlt, e0, e1⟩ := h1.tx hx
    have HG := hide (gr_at (last := last) hx)
    rw [HG.out]
    clear h1 hx
    generalize hL : l.length = L at *
    obtain ⟨m, rfl⟩ : ∃ m, L = m + 1 := ⟨L - 1, by omega⟩
    have bt : ((m + 1 : Nat) : Int) - 1 < ((m + 1 : Nat) : Int) := by omega
    have e5 : m + 1 - 1 = m := rfl
    rw [e5] at e0
    go_enter Try.func28, Try.ntmps28
    go_wp2_with fail
    go_ret
    exact ⟨rfl, HB.out⟩

end Go.Proofs.Yteafnohponbbeaa

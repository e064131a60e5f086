/-
  Rows of bytes, boxes, what stays: the laws of the walks over package disk (turned from the walks over package codec).
-/
import Derived.Test.YtnokibjhkdaamaaProg
import Derived.WalkKit
import Derived.Laws.StructEq
import Derived.Deep.RegionHeld
import Derived.Deep.RegionHeld3
import Derived.Deep.QuietTactic
import Derived.BigQuiet
import Derived.Laws.AppendOwnNone
import Derived.Lib.SliceRun
namespace Go
section
variable {P : Program} {w : World}
theorem run_append_none_any (base : Nat) (t ty e : TypeId) (i : TypeInfo) (size : Nat) (ht : P.underlying t = some (.slice e)) (hi : P.info? e = some i)
    (v : Value) (n : Nat) (xs : List Value) (hown : w.ownsRow base e size v n xs) (c : Nat) :
    (Builtin.append_ #[t, t] ty #[v, .slice none 0 c]).run P w = .ok v w := by
  rcases hown.2 with ⟨rfl, rfl⟩ | ⟨g, cap, cur, rfl, _, _, hnc, _⟩
  · simp [Builtin.append_, run_underlying ht, sizeOf, typeInfo, hi, Builtin.lenOf, Builtin.firstCells]
  · simp [Builtin.append_, run_underlying ht, sizeOf, typeInfo, hi, Builtin.lenOf, Builtin.firstCells, hnc, storeCells]
theorem wpList_append_none_any {ops : Array Oper} {rest : List Oper} {o : Oper} {a : Act} {Q : Exit → Act → World → Prop} (hgd : o.guard = none) (s x : Operand) (t : TypeId)
    (ho : o.op = .call { callee := .builtin .append, args := #[s, x], argTypes := #[t, t] })
    (base : Nat) (e : TypeId) (i : TypeInfo) (size : Nat) (ht : P.underlying t = some (.slice e)) (hi : P.info? e = some i)
    (v : Value) (n : Nat) (xs : List Value) (hs : a.eval s = v) (hown : w.ownsRow base e size v n xs) (c : Nat) (hx : a.eval x = .slice none 0 c)
    (h : wpList P ops Q rest (a.put o.dst v) w) : wpList P ops Q (o :: rest) a w := by
  refine wpList_plain hgd fun K hK => ?_
  have hrun := run_append_none_any (P := P) (w := w) base t o.type e i size ht hi v n xs hown c
  unfold Oper.wp
  simp [execOp, ho, resolve, invoke, builtin, hs, hx, hrun, Result.andThen]
  exact hK _ _ h
end
end Go
namespace Go.Proofs.Ytnokibjhkdaamaa
open Go.RowKit

def Byts (l : List Nat) : Prop := ∀ (i x : Nat), l[i]? = some x → x < 256

-- Base
/-- The bytes of a number, the highest first. -/
def be : Nat → Nat → List Nat
  | 0, _ => []
  | k + 1, n => n / 2 ^ (8 * k) % 256 :: be k n
def bs (l : List Nat) : List Value := l.map fun x : Nat => Value.int .u8 (x : Int)
theorem bs_length (l : List Nat) : (bs l).length = l.length := by simp [bs]
theorem bs_append (l m : List Nat) : bs (l ++ m) = bs l ++ bs m := by simp [bs]
theorem be_length (k n : Nat) : (be k n).length = k := by induction k with
  | zero => rfl
  | succ k ih => simp [be, ih]
theorem be_take (size n : Nat) : ∀ k, k < size → (be size n).take (k + 1) = (be size n).take k ++ [n / 2 ^ (8 * (size - 1 - k)) % 256] := by
  induction size with
  | zero => intro k h; omega
  | succ s ih =>
    intro k h
    cases k with
    | zero => simp [be]
    | succ k =>
      have := ih k (by omega)
      simp only [be, List.take_succ_cons, this, List.cons_append]
      rw [show s + 1 - 1 - (k + 1) = s - 1 - k from by omega]

/-- v is a slice of just the bytes l, at the head of a row of bytes that lies from block base on. -/
def Own (base : Nat) (w : World) (v : Value) (l : List Nat) : Prop := w.ownsRow base 5 1 v l.length (bs l)

/-- What a call that writes into one row of bytes leaves as it was: all below base, and all that is no row of bytes. -/
structure Kept (base : Nat) (w w' : World) : Prop where
  os : w'.os = w.os
  tape : w'.tape = w.tape
  output : w'.output = w.output
  size : w.heap.size ≤ w'.heap.size
  block : ∀ k, k < w.heap.size → (k < base ∨ ∀ cur m, w.heap[k]? ≠ some (.cells cur 5 m)) → w'.heap[k]? = w.heap[k]?

theorem Kept.refl (base : Nat) (w : World) : Kept base w w := ⟨rfl, rfl, rfl, Nat.le_refl _, fun _ _ _ => rfl⟩
theorem Kept.trans {base : Nat} {a b c : World} (h : Kept base a b) (k : Kept base b c) : Kept base a c :=
  ⟨k.os.trans h.os, k.tape.trans h.tape, k.output.trans h.output, Nat.le_trans h.size k.size, fun i hi hc => by
    have e := h.block i hi hc
    refine (k.block i (Nat.lt_of_lt_of_le hi h.size) ?_).trans e
    rw [e]; exact hc⟩
theorem Kept.of_below {base : Nat} {w w' : World} (h : Below w.heap.size w w') : Kept base w w' :=
  ⟨h.os, h.tape, h.output, h.size, fun k hk _ => h.block k hk⟩
theorem Kept.below {base : Nat} {w w' : World} (h : Kept base w w') (hb : base ≤ w.heap.size) : Below base w w' :=
  ⟨h.os, h.tape, h.output, h.size, fun k hk => h.block k (by omega) (.inl hk)⟩
theorem Kept.mono {base base' : Nat} {w w' : World} (h : Kept base w w') (hb : base' ≤ base) : Kept base' w w' :=
  ⟨h.os, h.tape, h.output, h.size, fun k hk hc => h.block k hk (hc.imp (fun x => by omega) id)⟩
theorem Kept.alloc {base : Nat} {a w : World} (h : Kept base a w) (o : Obj) : Kept base a (w.alloc o) :=
  h.trans (Kept.of_below ((Below.refl _ _).alloc (Nat.le_refl _) o))
theorem Kept.drew {base : Nat} {a w : World} (h : Kept base a w) : Kept base a w.drew := ⟨h.os, h.tape, h.output, h.size, h.block⟩
/-- A block of another kind stays as it was. -/
theorem Kept.box {base : Nat} {w w' : World} (h : Kept base w w') {k : Nat} {cs : Array Value} {t : TypeId} {m : Nat × Nat} (hk : w.heap[k]? = some (.cells cs t m)) (ht : t ≠ 5) : w'.heap[k]? = some (.cells cs t m) := by
  rw [h.block k (Array.getElem?_eq_some_iff.1 hk).1 (.inr fun cur m' e => by rw [hk] at e; simp at e; exact ht e.2.1), hk]
theorem Own.alloc {base : Nat} {w : World} {v : Value} {l : List Nat} (h : Own base w v l) (o : Obj) : Own base (w.alloc o) v l := World.ownsRow.alloc h o
theorem Own.nil (base : Nat) (w : World) : Own base w (.slice none 0 0) [] := World.ownsRow_nil _ _ _ _
theorem Own.mono {base base' : Nat} {w : World} {v : Value} {l : List Nat} (h : Own base w v l) (hb : base' ≤ base) : Own base' w v l := by
  refine ⟨h.1, ?_⟩
  rcases h.2 with h | ⟨g, cap, cur, h1, h2, h3⟩
  · exact .inl h
  · exact .inr ⟨g, cap, cur, h1, by omega, h3⟩
theorem Own.below {base B : Nat} {w w' : World} {v : Value} {l : List Nat} (h : Own base w v l) (hb : Below B w w') (hB : w.heap.size ≤ B) : Own base w' v l := by
  refine ⟨h.1, ?_⟩
  rcases h.2 with h | ⟨g, cap, cur, h1, h2, h3, h4⟩
  · exact .inl h
  · exact .inr ⟨g, cap, cur, h1, h2, by rw [hb.block g (by have := (Array.getElem?_eq_some_iff.1 h3).1; omega)]; exact h3, h4⟩
theorem Kept.of_grown {base : Nat} {w w' : World} {v : Value} {l : List Nat} (ho : Own base w v l) (hg : w.grownBy w' v.ownBlock) : Kept base w w' := by
  refine ⟨hg.os, hg.tape, hg.output, hg.size, fun k hk hc => hg.block k hk fun e => ?_⟩
  rcases ho.2 with ⟨h, _⟩ | ⟨g, cap, cur, h1, h2, h3, _⟩
  · subst h; simp [Value.ownBlock] at e
  · subst h1
    simp [Value.ownBlock] at e
    subst e
    rcases hc with hc | hc
    · omega
    · exact hc _ _ h3

theorem Try.info5 : (Try.prog.info? 5).map (fun i => (i.zero, i.size, i.bytes)) = some (some (.int .u8 0), 1, 1) := by kernel_rfl

/-- append's law at rows of bytes. -/
theorem app_own {w : World} {ops : Array Oper} {rest : List Oper} {o : Oper} {a : Act} {Q : Exit → Act → World → Prop} (hgd : o.guard = none) (s x : Operand)
    (ho : o.op = .call { callee := .builtin .append, args := #[s, x], argTypes := #[35, 35] }) (base : Nat) (v : Value) (l : List Nat) (hs : a.eval s = v) (hown : Own base w v l)
    (ad : Addr) (c : Nat) (news : List Nat) (hx : a.eval x = .slice (some ad) news.length c) (hnews : ∀ j (h : j < news.length), w.cell? (ad.add j) = some (.int .u8 (news[j] : Nat)))
    (hl : l.length + news.length ≤ 100000000000) (hbase : base ≤ w.heap.size)
    (h : ∀ v' w', Own base w' v' (l ++ news) → Kept base w w' → wpList Try.prog ops Q rest (a.put o.dst v') w') : wpList Try.prog ops Q (o :: rest) a w := by
  obtain ⟨i0, hi, hz0, hz1, hz2⟩ := info_parts Try.info5
  refine wpList_append_own w hgd s x 35 ho base 5 i0 (.int .u8 0) 1 1 Try.underlying35 hi hz0 hz1 hz2 rfl (by decide) v l.length (bs l) hs hown ad news.length c (bs news) hx (by simp [bs]) ?_ ?_ ?_ ?_ hbase ?_
  · intro j u hj
    have hj' : j < news.length := by have := (List.getElem?_eq_some_iff.1 hj).1; simpa [bs] using this
    rw [hnews j hj']
    have : (bs news)[j]? = some (.int .u8 (news[j] : Nat)) := by simp [bs, List.getElem?_map, List.getElem?_eq_getElem hj']
    rw [this] at hj; exact hj
  · intro u hu
    simp only [bs, List.mem_map] at hu
    obtain ⟨x, _, rfl⟩ := hu
    rfl
  · unfold maxLen; omega
  · omega
  · intro v' w' h1 h2 _
    refine h v' w' ?_ (Kept.of_grown hown h2)
    show w'.ownsRow base 5 1 v' (l ++ news).length (bs (l ++ news))
    rw [List.length_append, bs_append]; exact h1

/-- A new byte's block, as append's source. -/
theorem one_cell (w : World) (x : Nat) : ∀ j (h : j < [x].length), (w.alloc (.cells #[.int .u8 (x : Int)] 5)).cell? ((⟨w.heap.size, 0, none⟩ : Addr).add j) = some (.int .u8 ([x][j] : Nat)) := by
  intro j h
  have : j = 0 := by simpa using h
  subst this
  simp [Addr.add]

-- Ref3
theorem Own.shape {base : Nat} {w : World} {v : Value} {l : List Nat} (h : Own base w v l) (hl : l ≠ []) : ∃ g cap, v = .slice (some ⟨g, 0, none⟩) l.length cap ∧ base ≤ g ∧ g < w.heap.size ∧ l.length ≤ cap ∧ cap ≤ maxLen := by
  rcases h.2 with ⟨_, h0⟩ | ⟨g, cap, cur, h1, h2, h3, h4, h5, _⟩
  · exact absurd (List.length_eq_zero_iff.1 h0) hl
  · exact ⟨g, cap, h1, h2, (Array.getElem?_eq_some_iff.1 h3).1, h4, h5⟩
theorem Own.cellAt {base : Nat} {w : World} {g cap : Nat} {l : List Nat} (h : Own base w (.slice (some ⟨g, 0, none⟩) l.length cap) l) (j : Nat) (hj : j < l.length) : w.cell? ⟨g, j, none⟩ = some (.int .u8 (l[j] : Nat)) := by
  rw [World.ownsRow.cellAt h j (by omega)]
  simp [bs, List.getElem?_eq_getElem hj]
theorem Own.free {base : Nat} {w : World} {g cap : Nat} {l : List Nat} (h : Own base w (.slice (some ⟨g, 0, none⟩) l.length cap) l) (j : Nat) : w.frozen? ⟨g, j, none⟩ = false := World.ownsRow.frozenAt h j
theorem Own.stored {base : Nat} {w : World} {g cap : Nat} {l : List Nat} (h : Own base w (.slice (some ⟨g, 0, none⟩) l.length cap) l) (j x : Nat) :
    Own base (w.setCell ⟨g, j, none⟩ (.int .u8 (x : Int))) (.slice (some ⟨g, 0, none⟩) l.length cap) (l.set j x) ∧ Kept base w (w.setCell ⟨g, j, none⟩ (.int .u8 (x : Int))) := by
  obtain ⟨h1, h2⟩ := World.ownsRow.stored h j (.int .u8 (x : Int))
  refine ⟨?_, Kept.of_grown h h2⟩
  show World.ownsRow _ _ _ _ _ (l.set j x).length (bs (l.set j x))
  simp only [List.length_set, bs, List.map_set] at *
  exact h1

/-- Block k is a box of type t. -/
def BoxT (t : TypeId) (w : World) (k : Nat) (cs : Array Value) : Prop := w.heap[k]? = some (.cells cs t (0, 0))
theorem BoxT.cells4 {t : TypeId} {w : World} {k : Nat} {c0 c1 c2 c3 : Value} (h : BoxT t w k #[c0, c1, c2, c3]) :
    w.cell? ⟨k, 0, none⟩ = some c0 ∧ w.cell? ⟨k, 1, none⟩ = some c1 ∧ w.cell? ⟨k, 2, none⟩ = some c2 ∧ w.cell? ⟨k, 3, none⟩ = some c3 := by
  unfold BoxT at h
  simp [World.cell?, h]
theorem BoxT.new (t : TypeId) (w : World) (cs : Array Value) : BoxT t (w.alloc (.cells cs t)) w.heap.size cs := heap_alloc_new w _
theorem BoxT.new_at {t : TypeId} {w : World} {cs : Array Value} {k : Nat} (h : k = w.heap.size) : BoxT t (w.alloc (.cells cs t)) k cs := by subst h; exact BoxT.new t w cs
theorem BoxT.alloc {t : TypeId} {w : World} {k : Nat} {cs : Array Value} (h : BoxT t w k cs) (o : Obj) : BoxT t (w.alloc o) k cs := by
  unfold BoxT at *
  rw [Below.heap_alloc w o k (Array.getElem?_eq_some_iff.1 h).1]; exact h
theorem BoxT.kept {t : TypeId} {base : Nat} {w w' : World} {k : Nat} {cs : Array Value} (h : BoxT t w k cs) (hk : Kept base w w') (ht : t ≠ 5) : BoxT t w' k cs := Kept.box hk h ht
theorem BoxT.drew {t : TypeId} {w : World} {k : Nat} {cs : Array Value} (h : BoxT t w k cs) : BoxT t w.drew k cs := h
theorem BoxT.lt {t : TypeId} {w : World} {k : Nat} {cs : Array Value} (h : BoxT t w k cs) : k < w.heap.size := (Array.getElem?_eq_some_iff.1 h).1

def cfits (kd tk : Int) : Bool := decide (1 ≤ kd ∧ kd ≤ 6 ∧ 0 ≤ tk ∧ tk ≤ 65535)
def ctb (kd ep n tk : Int) : List Nat := kd.toNat :: (be 8 ep.toNat ++ (be 8 n.toNat ++ be 2 tk.toNat))

-- Seg
theorem ret_bool0 {a b : Bool} (h : a = b) : Ending.returned (.bool a) = .returned (.bool b) := by rw [h]
/-- v is a slice of just the bytes l, wherever they lie. -/
def Seg (w : World) (v : Value) (l : List Nat) : Prop :=
  ∃ ao cap, v = .slice ao l.length cap ∧ l.length ≤ cap ∧ cap ≤ 9223372036854775807 ∧ l.length ≤ 140737488355328 ∧ (l = [] ∨ ∃ b off, ao = some ⟨b, off, none⟩ ∧ b < w.heap.size ∧ ∀ (i x : Nat), l[i]? = some x → w.cell? ⟨b, off + i, none⟩ = some (.int .u8 (x : Int)))

theorem Seg.nil (w : World) : Seg w (.slice none 0 0) [] := ⟨none, 0, rfl, by simp, by simp, by simp, .inl rfl⟩
theorem Seg.below {w w' : World} {v : Value} {l : List Nat} (h : Seg w v l) (hb : Below w.heap.size w w') : Seg w' v l := by
  obtain ⟨ao, cap, h1, h2, h3, h3', h4⟩ := h
  refine ⟨ao, cap, h1, h2, h3, h3', ?_⟩
  rcases h4 with h4 | ⟨b, off, h5, h6, h7⟩
  · exact .inl h4
  · exact .inr ⟨b, off, h5, by have := hb.size; omega, fun i x hi => (hb.cell (p := ⟨b, off + i, none⟩) h6).trans (h7 i x hi)⟩

theorem list_eq_of {a b : List Nat} {n : Nat} (hl : a.length = n) (hb : b.length = n) (h : ∀ i : Nat, i < n → a[i]? = b[i]?) : a = b := by
  apply List.ext_getElem?
  intro i
  by_cases hi : i < n
  · exact h i hi
  · rw [List.getElem?_eq_none (by omega), List.getElem?_eq_none (by omega)]

theorem below_drewN' {B : Nat} {a w : World} (h : Below B a w) (n : Nat) : Below B a (w.drewN n) := by
  exact h.trans ⟨rfl, rfl, rfl, Nat.le_refl _, fun _ _ => rfl⟩
set_option maxHeartbeats 1000000 in
set_option maxRecDepth 100000 in
theorem Bytes_core (n ca cb b1 o1 b2 o2 : Nat) (a b : List Nat) (w : World) (hn : n ≤ 140737488355328) (hla : Hid (a.length = n)) (hlb : Hid (b.length = n)) (h1 : b1 < w.heap.size) (h2 : b2 < w.heap.size)
    (hc1 : ∀ (i x : Nat), a[i]? = some x → w.cell? ⟨b1, o1 + i, none⟩ = some (.int .u8 (x : Int))) (hc2 : ∀ (i x : Nat), b[i]? = some x → w.cell? ⟨b2, o2 + i, none⟩ = some (.int .u8 (x : Int))) :
    Calls Try.prog 29 #[.slice (some ⟨b1, o1, none⟩) n ca, .slice (some ⟨b2, o2, none⟩) n cb] w fun e w' => e = .returned (.bool (decide (a = b))) ∧ Below w.heap.size w w' := by
  have H1 : Hid (∀ (i x : Nat), a[i]? = some x → w.cell? ⟨b1, o1 + i, none⟩ = some (.int .u8 (x : Int))) := hc1
  have H2 : Hid (∀ (i x : Nat), b[i]? = some x → w.cell? ⟨b2, o2 + i, none⟩ = some (.int .u8 (x : Int))) := hc2
  clear hc1 hc2
  go_enter Try.func29, Try.ntmps29
  go_wp2
  go_loopw [5] (fun i wr => ∃ k : Nat, k ≤ n ∧ i = .int .i64 k ∧ Below w.heap.size w wr ∧ Hid (∀ i : Nat, i < k → a[i]? = b[i]?)) (fun i _ => n - (intOf i).toNat)
  case atStart => exact ⟨0, Nat.zero_le _, rfl, Below.refl _ _, fun i h => by omega⟩
  case round =>
    obtain ⟨k, hk, rfl, hbel, HS⟩ := hrel
    by_cases hlt : k < n
    · obtain ⟨x, hx⟩ : ∃ x : Nat, a[k]? = some x := ⟨_, List.getElem?_eq_getElem (by have := hla.out; omega)⟩
      obtain ⟨y, hy⟩ : ∃ y : Nat, b[k]? = some y := ⟨_, List.getElem?_eq_getElem (by have := hlb.out; omega)⟩
      have c1 : wr.cell? ⟨b1, o1 + k, none⟩ = some (.int .u8 (x : Int)) := (hbel.cell (p := ⟨b1, o1 + k, none⟩) h1).trans (H1.out k x hx)
      have c2 : wr.cell? ⟨b2, o2 + k, none⟩ = some (.int .u8 (y : Int)) := (hbel.cell (p := ⟨b2, o2 + k, none⟩) h2).trans (H2.out k y hy)
      have HX : Hid (a[k]? = some x) := hx
      have HY : Hid (b[k]? = some y) := hy
      clear hx hy
      by_cases hxy : x = y
      · subst hxy
        go_wp2
        go_quiet (fail)
        go_wp2
        go_roundw
        case rel => exact ⟨k + 1, by omega, by go_num, below_drewN' hbel nq, fun i hi => by
          by_cases hik : i < k
          · exact HS.out i hik
          · obtain rfl : i = k := by omega
            rw [HX.out, HY.out]⟩
        case measure => simp [intOf]; omega
      · have e1 : ((x : Int) != (y : Int)) = true := by simp; omega
        go_wp2
        go_quiet (fail)
        go_wp2
        go_ret
        refine ⟨ret_bool0 (by
          symm; apply decide_eq_false; intro h; subst h
          have := HX.out.symm.trans HY.out; exact hxy (Option.some.inj this)), below_drewN' hbel nq⟩
    · go_wp2
      go_ret
      exact ⟨ret_bool0 (by simp; exact (list_eq_of hla.out hlb.out fun i hi => HS.out i (by omega)).symm ▸ rfl), hbel⟩

set_option maxHeartbeats 1000000 in
set_option maxRecDepth 100000 in
theorem Bytes_any (va vb : Value) (a b : List Nat) (w : World) (ha : Seg w va a) (hb : Seg w vb b) :
    Calls Try.prog 29 #[va, vb] w fun e w' => e = .returned (.bool (decide (a = b))) ∧ Below w.heap.size w w' := by
  obtain ⟨aa, ca, rfl, hla, hca, hna, ha⟩ := ha
  obtain ⟨ab, cb, rfl, hlb, hcb, hnb, hb⟩ := hb
  by_cases hlen : a.length = b.length
  · by_cases h0 : a = []
    · subst h0
      have : b = [] := by simpa using hlen.symm
      subst this
      clear ha hb hlen
      simp only [List.length_nil]
      go_enter Try.func29, Try.ntmps29
      go_wp2
      refine wp_loop_rounds 1 ?_
      rw [rounds_succ]
      go_wp2
      go_ret
      exact ⟨ret_bool0 (by simp), Below.refl _ _⟩
    · rcases ha with ha | ⟨b1, o1, rfl, h1, hc1⟩
      · exact absurd ha h0
      rcases hb with rfl | ⟨b2, o2, rfl, h2, hc2⟩
      · exact absurd (by simpa using hlen) h0
      rw [← hlen]
      exact Bytes_core a.length ca cb b1 o1 b2 o2 a b w hna rfl hlen.symm h1 h2 hc1 hc2
  · have e0 : ((a.length : Int) != (b.length : Int)) = true := by simp; omega
    have HL : Hid (¬ a.length = b.length) := hlen
    clear ha hb hlen
    go_enter Try.func29, Try.ntmps29
    go_wp2
    go_ret
    exact ⟨ret_bool0 (by symm; apply decide_eq_false; intro h; exact HL.out (by rw [h])), Below.refl _ _⟩

-- Rd
/-- v is a slice of just the bytes l, which lie below block B. -/
def SegB (B : Nat) (w : World) (v : Value) (l : List Nat) : Prop :=
  ∃ ao cap, v = .slice ao l.length cap ∧ l.length ≤ cap ∧ cap ≤ 9223372036854775807 ∧ l.length ≤ 140737488355328 ∧ (l = [] ∨ ∃ b off, ao = some ⟨b, off, none⟩ ∧ b < B ∧ ∀ (i x : Nat), l[i]? = some x → w.cell? ⟨b, off + i, none⟩ = some (.int .u8 (x : Int)))
theorem BoxT.cells2 {t : TypeId} {w : World} {k : Nat} {c0 c1 : Value} (h : BoxT t w k #[c0, c1]) : w.cell? ⟨k, 0, none⟩ = some c0 ∧ w.cell? ⟨k, 1, none⟩ = some c1 := by
  unfold BoxT at h
  simp [World.cell?, h]
theorem BoxT.free {t : TypeId} {w : World} {k : Nat} {cs : Array Value} (h : BoxT t w k cs) (j : Nat) : w.frozen? ⟨k, j, none⟩ = false := by
  unfold BoxT at h
  exact frozen_of_row w k j cs t h
theorem BoxT.set {t : TypeId} {w : World} {k : Nat} {cs : Array Value} (h : BoxT t w k cs) (j : Nat) (u : Value) : BoxT t (w.setCell ⟨k, j, none⟩ u) k (cs.setIfInBounds j u) :=
  heap_setCell_same w k j cs t u h
theorem grownBy_set (w : World) (R j : Nat) (u : Value) : w.grownBy (w.setCell ⟨R, j, none⟩ u) (some R) :=
  ⟨rfl, rfl, rfl, by simp, fun k _ hk => Below.heap_setCell w ⟨R, j, none⟩ u k (fun e => hk (by simp [e]))⟩
theorem grownBy_refl (w : World) (r : Option Nat) : w.grownBy w r := ⟨rfl, rfl, rfl, Nat.le_refl _, fun _ _ _ => rfl⟩
theorem grownBy_trans {a b c : World} {r : Option Nat} (h : a.grownBy b r) (k : b.grownBy c r) : a.grownBy c r :=
  ⟨k.os.trans h.os, k.tape.trans h.tape, k.output.trans h.output, Nat.le_trans h.size k.size, fun i hi hne => (k.block i (Nat.lt_of_lt_of_le hi h.size) hne).trans (h.block i hi hne)⟩
theorem grownBy_alloc' (w : World) (o : Obj) (r : Option Nat) : w.grownBy (w.alloc o) r := ⟨rfl, rfl, rfl, by simp, fun k hk _ => Below.heap_alloc w o k hk⟩
theorem grownBy_drew {a w : World} {r : Option Nat} (h : a.grownBy w r) : a.grownBy w.drew r := ⟨h.os, h.tape, h.output, h.size, h.block⟩
theorem SegB.grown {R : Nat} {w w' : World} {v : Value} {l : List Nat} (h : SegB R w v l) (hg : w.grownBy w' (some R)) (hR : R ≤ w.heap.size) : SegB R w' v l := by
  obtain ⟨ao, cap, h1, h2, h3, h3', h4⟩ := h
  refine ⟨ao, cap, h1, h2, h3, h3', ?_⟩
  rcases h4 with h4 | ⟨b, off, h5, h6, h7⟩
  · exact .inl h4
  · exact .inr ⟨b, off, h5, h6, fun i x hi => (World.cell?_of_block (hg.block b (by omega) (by simp; omega))).trans (h7 i x hi)⟩

-- Rdf
theorem BoxT.grown {t : TypeId} {w w' : World} {k R : Nat} {cs : Array Value} (h : BoxT t w k cs) (hg : w.grownBy w' (some R)) (hne : k ≠ R) : BoxT t w' k cs := by
  unfold BoxT at *
  rw [hg.block k (Array.getElem?_eq_some_iff.1 h).1 (by simpa using hne)]; exact h
theorem grown_set {a w : World} {r : Option Nat} (h : a.grownBy w r) (k j : Nat) (u : Value) (hk : a.heap.size ≤ k) : a.grownBy (w.setCell ⟨k, j, none⟩ u) r :=
  ⟨h.os, h.tape, h.output, by have := h.size; simpa using this, fun i hi hne => (Below.heap_setCell w ⟨k, j, none⟩ u i (by show i ≠ k; omega)).trans (h.block i hi hne)⟩
theorem grown_alloc {a w : World} {r : Option Nat} (h : a.grownBy w r) (o : Obj) : a.grownBy (w.alloc o) r := grownBy_trans h (grownBy_alloc' w o r)
theorem BoxT.cells7 {t : TypeId} {w : World} {k : Nat} {c0 c1 c2 c3 c4 c5 c6 : Value} (h : BoxT t w k #[c0, c1, c2, c3, c4, c5, c6]) :
    w.cell? ⟨k, 0, none⟩ = some c0 ∧ w.cell? ⟨k, 1, none⟩ = some c1 ∧ w.cell? ⟨k, 2, none⟩ = some c2 ∧ w.cell? ⟨k, 3, none⟩ = some c3 ∧ w.cell? ⟨k, 4, none⟩ = some c4 ∧ w.cell? ⟨k, 5, none⟩ = some c5 ∧ w.cell? ⟨k, 6, none⟩ = some c6 := by
  unfold BoxT at h
  simp [World.cell?, h]

theorem BoxT.other {t : TypeId} {w : World} {k k' : Nat} {cs : Array Value} (h : BoxT t w k cs) (j : Nat) (u : Value) (hk : k ≠ k') : BoxT t (w.setCell ⟨k', j, none⟩ u) k cs := by
  unfold BoxT at *
  rw [Below.heap_setCell w ⟨k', j, none⟩ u k hk]; exact h

-- Openf
def done (s : List Nat × Bool) : Bool := !s.2 && s.1.isEmpty

theorem Seg.alloc {w : World} {v : Value} {l : List Nat} (h : Seg w v l) (o : Obj) : Seg (w.alloc o) v l := h.below ((Below.refl _ _).alloc (Nat.le_refl _) o)
theorem Below.of_grown {w w' : World} {R B : Nat} (hg : w.grownBy w' (some R)) (hR : B ≤ R) (hB : B ≤ w.heap.size) : Below B w w' :=
  ⟨hg.os, hg.tape, hg.output, hg.size, fun k hk => hg.block k (by omega) (by simp; omega)⟩

-- Openc
theorem add_plain2 (b o i : Nat) : (⟨b, o, none⟩ : Addr).add i = ⟨b, o + i, none⟩ := by unfold Addr.add; split <;> simp_all
/-- append's law at rows of bytes, whatever the source. -/
theorem app_seg {w : World} {ops : Array Oper} {rest : List Oper} {o : Oper} {a : Act} {Q : Exit → Act → World → Prop} (hgd : o.guard = none) (s x : Operand)
    (ho : o.op = .call { callee := .builtin .append, args := #[s, x], argTypes := #[35, 35] }) (base : Nat) (v : Value) (l : List Nat) (hs : a.eval s = v) (hown : Own base w v l)
    (vx : Value) (m : List Nat) (hx : a.eval x = vx) (hseg : Seg w vx m) (hl : l.length + m.length ≤ 100000000000) (hbase : base ≤ w.heap.size)
    (h : ∀ v' w', Own base w' v' (l ++ m) → Kept base w w' → wpList Try.prog ops Q rest (a.put o.dst v') w') : wpList Try.prog ops Q (o :: rest) a w := by
  obtain ⟨ao, cap, rfl, h1, h2, h3, h4⟩ := hseg
  rcases ao with _ | ad
  · have hm : m = [] := by
      rcases h4 with h4 | ⟨b, off, h5, _⟩
      · exact h4
      · cases h5
    subst hm
    obtain ⟨i0, hi, hz0, hz1, hz2⟩ := info_parts Try.info5
    refine wpList_append_none_any hgd s x 35 ho base 5 i0 1 Try.underlying35 hi v l.length (bs l) hs hown cap hx (h v w ?_ (Kept.refl _ _))
    rw [List.append_nil]; exact hown
  · refine app_own hgd s x ho base v l hs hown ad cap m hx ?_ hl hbase h
    intro j hj
    rcases h4 with h4 | ⟨b, off, h5, _, h6⟩
    · subst h4; cases hj
    · cases h5
      have := h6 j _ (List.getElem?_eq_getElem hj)
      rw [add_plain2]; exact this

theorem Own.seg {base : Nat} {w : World} {v : Value} {l : List Nat} (h : Own base w v l) (hl : l.length ≤ 140737488355328) : Seg w v l := by
  by_cases h0 : l = []
  · subst h0
    rcases h.2 with ⟨rfl, _⟩ | ⟨g, cap, cur, rfl, h2, h3, h4, h5, _⟩
    · exact Seg.nil w
    · exact ⟨_, cap, rfl, by simp, h5, by simp, .inl rfl⟩
  · obtain ⟨g, cap, rfl, h2, h3, h4, h5⟩ := h.shape h0
    refine ⟨_, cap, rfl, h4, h5, hl, .inr ⟨g, 0, rfl, h3, fun i x hx => ?_⟩⟩
    obtain ⟨hi, rfl⟩ := List.getElem?_eq_some_iff.1 hx
    rw [Nat.zero_add]; exact h.cellAt i hi
theorem Own.emp (base : Nat) (w : World) (hb : base ≤ w.heap.size) : Own base (w.alloc (.cells #[] 5)) (.slice (some ⟨w.heap.size, 0, none⟩) 0 0) [] :=
  World.ownsRow_lit (base := base) (e := 5) (size := 1) w #[] 0 hb (by unfold maxLen; omega) rfl

set_option maxHeartbeats 1000000 in
set_option maxRecDepth 100000 in
theorem Copy_any (v : Value) (l : List Nat) (w : World) (h : Seg w v l) (hl : l.length ≤ 10000000000) :
    Calls Try.prog 17 #[v] w fun e w' => ∃ v', e = .returned v' ∧ Own w.heap.size w' v' l ∧ Below w.heap.size w w' := by
  go_enter Try.func17, Try.ntmps17
  go_wp2_with (at_builtin; refine app_seg rfl _ _ rfl w.heap.size _ [] rfl (Own.nil _ _) v l rfl h (by simp; omega) (Nat.le_refl _) ?_)
  intro v' w1 ho hk
  go_wp2
  go_ret
  exact ⟨_, rfl, by simpa using ho, hk.below (Nat.le_refl _)⟩

theorem Seg.kept {w w' : World} {v : Value} {l : List Nat} {B : Nat} (h : SegB B w v l) (hk : Kept B w w') (hB : B ≤ w.heap.size) : SegB B w' v l := by
  obtain ⟨ao, cap, h1, h2, h3, h3', h4⟩ := h
  refine ⟨ao, cap, h1, h2, h3, h3', ?_⟩
  rcases h4 with h4 | ⟨b, off, h5, h6, h7⟩
  · exact .inl h4
  · exact .inr ⟨b, off, h5, h6, fun i x hi => (World.cell?_of_block (hk.block b (by omega) (.inl h6))).trans (h7 i x hi)⟩
theorem SegB.seg {w : World} {v : Value} {l : List Nat} {B : Nat} (h : SegB B w v l) (hB : B ≤ w.heap.size) : Seg w v l := by
  obtain ⟨ao, cap, h1, h2, h3, h3', h4⟩ := h
  refine ⟨ao, cap, h1, h2, h3, h3', ?_⟩
  rcases h4 with h4 | ⟨b, off, h5, h6, h7⟩
  · exact .inl h4
  · exact .inr ⟨b, off, h5, by omega, h7⟩
theorem Seg.segB {w : World} {v : Value} {l : List Nat} (h : Seg w v l) : SegB w.heap.size w v l := h

end Go.Proofs.Ytnokibjhkdaamaa

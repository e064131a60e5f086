/-
  Texts of the vault, in build order: Base, Wr.
-/
import Derived.Test.YtbfhcbihgleddaaGreatDoorProg
import Derived.WalkKit
/-
  Helps for the walks over package codec: bytes of a number, highest first; what it means that a slice of bytes is the call's own; what a call leaves as it was; append's law at bytes.
-/
namespace Go.Proofs.YtbfhcbihgleddaaGreatDoor
open Go.RowKit

/-- The bytes of a number, the highest first. -/
def be : Nat → Nat → List Nat
  | 0, _ => []
  | k + 1, n => n / 2 ^ (8 * k) % 256 :: be k n
def bs (l : List Nat) : List Value := l.map fun x : Nat => Value.int .u8 (x : Int)
theorem bs_length (l : List Nat) : (bs l).length = l.length := by simp [bs]
theorem bs_append (l m : List Nat) : bs (l ++ m) = bs l ++ bs m := by simp [bs]
theorem be_length (k n : Nat) : (be k n).length = k := by induction k with
  | zero => rfl
  | succ k ih => simp [be, ih]
theorem be_take (size n : Nat) : ∀ k, k < size → (be size n).take (k + 1) = (be size n).take k ++ [n / 2 ^ (8 * (size - 1 - k)) % 256] := by
  induction size with
  | zero => intro k h; omega
  | succ s ih =>
    intro k h
    cases k with
    | zero => simp [be]
    | succ k =>
      have := ih k (by omega)
      simp only [be, List.take_succ_cons, this, List.cons_append]
      rw [show s + 1 - 1 - (k + 1) = s - 1 - k from by omega]

/-- v is a slice of just the bytes l, at the head of a row of bytes that lies from block base on. -/
def Own (base : Nat) (w : World) (v : Value) (l : List Nat) : Prop := w.ownsRow base 5 1 v l.length (bs l)

/-- What a call that writes into one row of bytes leaves as it was: all below base, and all that is no row of bytes. -/
structure Kept (base : Nat) (w w' : World) : Prop where
  os : w'.os = w.os
  tape : w'.tape = w.tape
  output : w'.output = w.output
  size : w.heap.size ≤ w'.heap.size
  block : ∀ k, k < w.heap.size → (k < base ∨ ∀ cur m, w.heap[k]? ≠ some (.cells cur 5 m)) → w'.heap[k]? = w.heap[k]?

theorem Kept.refl (base : Nat) (w : World) : Kept base w w := ⟨rfl, rfl, rfl, Nat.le_refl _, fun _ _ _ => rfl⟩
theorem Kept.trans {base : Nat} {a b c : World} (h : Kept base a b) (k : Kept base b c) : Kept base a c :=
  ⟨k.os.trans h.os, k.tape.trans h.tape, k.output.trans h.output, Nat.le_trans h.size k.size, fun i hi hc => by
    have e := h.block i hi hc
    refine (k.block i (Nat.lt_of_lt_of_le hi h.size) ?_).trans e
    rw [e]; exact hc⟩
theorem Kept.of_below {base : Nat} {w w' : World} (h : Below w.heap.size w w') : Kept base w w' :=
  ⟨h.os, h.tape, h.output, h.size, fun k hk _ => h.block k hk⟩
theorem Kept.below {base : Nat} {w w' : World} (h : Kept base w w') (hb : base ≤ w.heap.size) : Below base w w' :=
  ⟨h.os, h.tape, h.output, h.size, fun k hk => h.block k (by omega) (.inl hk)⟩
theorem Kept.mono {base base' : Nat} {w w' : World} (h : Kept base w w') (hb : base' ≤ base) : Kept base' w w' :=
  ⟨h.os, h.tape, h.output, h.size, fun k hk hc => h.block k hk (hc.imp (fun x => by omega) id)⟩
theorem Kept.alloc {base : Nat} {a w : World} (h : Kept base a w) (o : Obj) : Kept base a (w.alloc o) :=
  h.trans (Kept.of_below ((Below.refl _ _).alloc (Nat.le_refl _) o))
theorem Kept.drew {base : Nat} {a w : World} (h : Kept base a w) : Kept base a w.drew := ⟨h.os, h.tape, h.output, h.size, h.block⟩
/-- A block of another kind stays as it was. -/
theorem Kept.box {base : Nat} {w w' : World} (h : Kept base w w') {k : Nat} {cs : Array Value} {t : TypeId} {m : Nat × Nat} (hk : w.heap[k]? = some (.cells cs t m)) (ht : t ≠ 5) : w'.heap[k]? = some (.cells cs t m) := by
  rw [h.block k (Array.getElem?_eq_some_iff.1 hk).1 (.inr fun cur m' e => by rw [hk] at e; simp at e; exact ht e.2.1), hk]
theorem Own.alloc {base : Nat} {w : World} {v : Value} {l : List Nat} (h : Own base w v l) (o : Obj) : Own base (w.alloc o) v l := World.ownsRow.alloc h o
theorem Own.nil (base : Nat) (w : World) : Own base w (.slice none 0 0) [] := World.ownsRow_nil _ _ _ _
theorem Own.mono {base base' : Nat} {w : World} {v : Value} {l : List Nat} (h : Own base w v l) (hb : base' ≤ base) : Own base' w v l := by
  refine ⟨h.1, ?_⟩
  rcases h.2 with h | ⟨g, cap, cur, h1, h2, h3⟩
  · exact .inl h
  · exact .inr ⟨g, cap, cur, h1, by omega, h3⟩
theorem Own.below {base B : Nat} {w w' : World} {v : Value} {l : List Nat} (h : Own base w v l) (hb : Below B w w') (hB : w.heap.size ≤ B) : Own base w' v l := by
  refine ⟨h.1, ?_⟩
  rcases h.2 with h | ⟨g, cap, cur, h1, h2, h3, h4⟩
  · exact .inl h
  · exact .inr ⟨g, cap, cur, h1, h2, by rw [hb.block g (by have := (Array.getElem?_eq_some_iff.1 h3).1; omega)]; exact h3, h4⟩
theorem Kept.of_grown {base : Nat} {w w' : World} {v : Value} {l : List Nat} (ho : Own base w v l) (hg : w.grownBy w' v.ownBlock) : Kept base w w' := by
  refine ⟨hg.os, hg.tape, hg.output, hg.size, fun k hk hc => hg.block k hk fun e => ?_⟩
  rcases ho.2 with ⟨h, _⟩ | ⟨g, cap, cur, h1, h2, h3, _⟩
  · subst h; simp [Value.ownBlock] at e
  · subst h1
    simp [Value.ownBlock] at e
    subst e
    rcases hc with hc | hc
    · omega
    · exact hc _ _ h3

theorem Tryz.info5 : (Tryz.prog.info? 5).map (fun i => (i.zero, i.size, i.bytes)) = some (some (.int .u8 0), 1, 1) := by kernel_rfl

/-- append's law at rows of bytes. -/
theorem app_own {w : World} {ops : Array Oper} {rest : List Oper} {o : Oper} {a : Act} {Q : Exit → Act → World → Prop} (hgd : o.guard = none) (s x : Operand)
    (ho : o.op = .call { callee := .builtin .append, args := #[s, x], argTypes := #[22, 22] }) (base : Nat) (v : Value) (l : List Nat) (hs : a.eval s = v) (hown : Own base w v l)
    (ad : Addr) (c : Nat) (news : List Nat) (hx : a.eval x = .slice (some ad) news.length c) (hnews : ∀ j (h : j < news.length), w.cell? (ad.add j) = some (.int .u8 (news[j] : Nat)))
    (hl : l.length + news.length ≤ 100000000000) (hbase : base ≤ w.heap.size)
    (h : ∀ v' w', Own base w' v' (l ++ news) → Kept base w w' → wpList Tryz.prog ops Q rest (a.put o.dst v') w') : wpList Tryz.prog ops Q (o :: rest) a w := by
  obtain ⟨i0, hi, hz0, hz1, hz2⟩ := info_parts Tryz.info5
  refine wpList_append_own w hgd s x 22 ho base 5 i0 (.int .u8 0) 1 1 Tryz.underlying22 hi hz0 hz1 hz2 rfl (by decide) v l.length (bs l) hs hown ad news.length c (bs news) hx (by simp [bs]) ?_ ?_ ?_ ?_ hbase ?_
  · intro j u hj
    have hj' : j < news.length := by have := (List.getElem?_eq_some_iff.1 hj).1; simpa [bs] using this
    rw [hnews j hj']
    have : (bs news)[j]? = some (.int .u8 (news[j] : Nat)) := by simp [bs, List.getElem?_map, List.getElem?_eq_getElem hj']
    rw [this] at hj; exact hj
  · intro u hu
    simp only [bs, List.mem_map] at hu
    obtain ⟨x, _, rfl⟩ := hu
    rfl
  · unfold maxLen; omega
  · omega
  · intro v' w' h1 h2 _
    refine h v' w' ?_ (Kept.of_grown hown h2)
    show w'.ownsRow base 5 1 v' (l ++ news).length (bs (l ++ news))
    rw [List.length_append, bs_append]; exact h1

/-- A new byte's block, as append's source. -/
theorem one_cell (w : World) (x : Nat) : ∀ j (h : j < [x].length), (w.alloc (.cells #[.int .u8 (x : Int)] 5)).cell? ((⟨w.heap.size, 0, none⟩ : Addr).add j) = some (.int .u8 ([x][j] : Nat)) := by
  intro j h
  have : j = 0 := by simpa using h
  subst this
  simp [Addr.add]
end Go.Proofs.YtbfhcbihgleddaaGreatDoor
namespace Go.Proofs.YtbfhcbihgleddaaGreatDoor
open Go.RowKit

theorem cast_byte (n k : Nat) : (n : Int) / 2 ^ k % 256 = ((n / 2 ^ k % 256 : Nat) : Int) := by
  simp [Int.natCast_ediv, Int.natCast_emod]

set_option maxHeartbeats 400000 in
set_option maxRecDepth 100000 in
theorem writeNumber_any (base : Nat) (v : Value) (l : List Nat) (size n : Nat) (w : World) (hs : size ≤ 8) (hl : l.length ≤ 10000000000) (hb : base ≤ w.heap.size) (hown : Own base w v l) :
    Calls Tryz.prog 100 #[v, .int .i64 size, .int .u64 n] w fun e w' => ∃ v', e = .returned v' ∧ Own base w' v' (l ++ be size n) ∧ Kept base w w' := by
  go_enter Tryz.func100, Tryz.ntmps100
  go_wp2
  go_loopw [0, 7] (fun v i wr => ∃ k : Nat, k ≤ size ∧ i = .int .i64 ((size : Int) - 1 - k) ∧ Own base wr v (l ++ (be size n).take k) ∧ Kept base w wr) (fun _ i _ => (intOf i + 1).toNat)
  case atStart => exact ⟨0, Nat.zero_le _, by simp, by simpa using hown, Kept.refl _ _⟩
  case round =>
    obtain ⟨k, hk, rfl, hown, hkept⟩ := hrel
    have hkl : ((be size n).take k).length ≤ 8 := by rw [List.length_take, be_length]; omega
    have hsz := hkept.size
    by_cases hlt : k < size
    · go_wp2_with (at_builtin; (rw [cast_byte]); refine app_own rfl _ _ rfl base _ _ rfl (hown.alloc _) ⟨wr.heap.size, 0, none⟩ 1 [n / 2 ^ (8 * (size - 1 - k)) % 256] rfl (one_cell _ _) ?c1 ?c2 ?_)
      case c1 => simp only [List.length_append, List.length_singleton]; omega
      case c2 => simp; omega
      intro v' w1 hown' hk1
      go_wp2
      go_roundw
      case rel => exact ⟨k + 1, by omega, by go_num, by rw [be_take size n k hlt]; exact hown', (hkept.alloc _).trans hk1⟩
      case measure => simp [intOf]; omega
    · go_wp2
      go_ret
      have : k = size := by omega
      subst this
      rw [List.take_of_length_le (by rw [be_length]; omega)] at hown
      exact ⟨_, rfl, hown, hkept⟩
set_option maxHeartbeats 400000 in
set_option maxRecDepth 100000 in
theorem put_any (base : Nat) (v : Value) (l : List Nat) (size n : Nat) (w : World) (hs : size ≤ 8) (hl : l.length ≤ 10000000000) (hb : base ≤ w.heap.size) (hown : Own base w v l) :
    Calls Tryz.prog 104 #[v, .int .i64 size, .int .u64 n] w fun e w' => ∃ v', e = .returned v' ∧ Own base w' v' (l ++ be size n) ∧ Kept base w w' := by
  go_enter Tryz.func104, Tryz.ntmps104
  go_wp2
  go_loopw [0, 7] (fun v i wr => ∃ k : Nat, k ≤ size ∧ i = .int .i64 ((size : Int) - 1 - k) ∧ Own base wr v (l ++ (be size n).take k) ∧ Kept base w wr) (fun _ i _ => (intOf i + 1).toNat)
  case atStart => exact ⟨0, Nat.zero_le _, by simp, by simpa using hown, Kept.refl _ _⟩
  case round =>
    obtain ⟨k, hk, rfl, hown, hkept⟩ := hrel
    have hkl : ((be size n).take k).length ≤ 8 := by rw [List.length_take, be_length]; omega
    have hsz := hkept.size
    by_cases hlt : k < size
    · go_wp2_with (at_builtin; (rw [cast_byte]); refine app_own rfl _ _ rfl base _ _ rfl (hown.alloc _) ⟨wr.heap.size, 0, none⟩ 1 [n / 2 ^ (8 * (size - 1 - k)) % 256] rfl (one_cell _ _) ?c1 ?c2 ?_)
      case c1 => simp only [List.length_append, List.length_singleton]; omega
      case c2 => simp; omega
      intro v' w1 hown' hk1
      go_wp2
      go_roundw
      case rel => exact ⟨k + 1, by omega, by go_num, by rw [be_take size n k hlt]; exact hown', (hkept.alloc _).trans hk1⟩
      case measure => simp [intOf]; omega
    · go_wp2
      go_ret
      have : k = size := by omega
      subst this
      rw [List.take_of_length_le (by rw [be_length]; omega)] at hown
      exact ⟨_, rfl, hown, hkept⟩

theorem writeNumber_at (base : Nat) (v : Value) (l : List Nat) (sz m : Int) (w : World) (h0 : 0 ≤ sz) (hs : sz ≤ 8) (hm : 0 ≤ m) (hl : l.length ≤ 10000000000) (hb : base ≤ w.heap.size) (hown : Own base w v l) :
    Calls Tryz.prog 100 #[v, .int .i64 sz, .int .u64 m] w fun e w' => ∃ v', e = .returned v' ∧ Own base w' v' (l ++ be sz.toNat m.toNat) ∧ Kept base w w' := by
  obtain ⟨a, rfl⟩ := Int.eq_ofNat_of_zero_le h0
  obtain ⟨b, rfl⟩ := Int.eq_ofNat_of_zero_le hm
  exact writeNumber_any base v l a b w (by omega) hl hb hown
theorem put_at (base : Nat) (v : Value) (l : List Nat) (sz m : Int) (w : World) (h0 : 0 ≤ sz) (hs : sz ≤ 8) (hm : 0 ≤ m) (hl : l.length ≤ 10000000000) (hb : base ≤ w.heap.size) (hown : Own base w v l) :
    Calls Tryz.prog 104 #[v, .int .i64 sz, .int .u64 m] w fun e w' => ∃ v', e = .returned v' ∧ Own base w' v' (l ++ be sz.toNat m.toNat) ∧ Kept base w w' := by
  obtain ⟨a, rfl⟩ := Int.eq_ofNat_of_zero_le h0
  obtain ⟨b, rfl⟩ := Int.eq_ofNat_of_zero_le hm
  exact put_any base v l a b w (by omega) hl hb hown

theorem wrap_u64_nonneg (n : Int) : 0 ≤ IntKind.u64.wrap n := by rw [IntKind.wrap_u64]; omega

/-- The bytes of a signed number. -/
def sbe (n : Int) : List Nat := be 8 (IntKind.u64.wrap n).toNat

set_option maxHeartbeats 400000 in
set_option maxRecDepth 100000 in
theorem writeSigned_any (base : Nat) (v : Value) (l : List Nat) (n : Int) (w : World) (hl : l.length ≤ 10000000000) (hb : base ≤ w.heap.size) (hown : Own base w v l) :
    Calls Tryz.prog 126 #[v, .int .i64 n] w fun e w' => ∃ v', e = .returned v' ∧ Own base w' v' (l ++ sbe n) ∧ Kept base w w' := by
  go_enter Tryz.func126, Tryz.ntmps126
  go_wp2_with fail
  refine (writeNumber_at base v l _ _ w (by omega) (by omega) (wrap_u64_nonneg n) hl hb hown).mono ?_
  rintro e w1 ⟨v', rfl, ho, hk⟩
  go_wp2
  go_ret
  exact ⟨_, rfl, ho, hk⟩

set_option maxHeartbeats 400000 in
set_option maxRecDepth 100000 in
theorem writeFlag_any (base : Nat) (v : Value) (l : List Nat) (f : Bool) (w : World) (hl : l.length ≤ 10000000000) (hb : base ≤ w.heap.size) (hown : Own base w v l) :
    Calls Tryz.prog 164 #[v, .bool f] w fun e w' => ∃ v', e = .returned v' ∧ Own base w' v' (l ++ [f.toNat]) ∧ Kept base w w' := by
  cases f
  · go_enter Tryz.func164, Tryz.ntmps164
    go_wp2_with (at_builtin; refine app_own rfl _ _ rfl base _ _ rfl (hown.alloc _) ⟨w.heap.size, 0, none⟩ 1 [0] rfl (one_cell w 0) ?c1 ?c2 ?_)
    case c1 => simp; omega
    case c2 => simp; omega
    intro v' w1 ho hk
    go_wp2
    go_ret
    exact ⟨_, rfl, ho, ((Kept.refl _ _).alloc _).trans hk⟩
  · go_enter Tryz.func164, Tryz.ntmps164
    go_wp2_with (at_builtin; refine app_own rfl _ _ rfl base _ _ rfl (hown.alloc _) ⟨w.heap.size, 0, none⟩ 1 [1] rfl (one_cell w 1) ?c1 ?c2 ?_)
    case c1 => simp; omega
    case c2 => simp; omega
    intro v' w1 ho hk
    go_wp2
    go_ret
    exact ⟨_, rfl, ho, ((Kept.refl _ _).alloc _).trans hk⟩
end Go.Proofs.YtbfhcbihgleddaaGreatDoor

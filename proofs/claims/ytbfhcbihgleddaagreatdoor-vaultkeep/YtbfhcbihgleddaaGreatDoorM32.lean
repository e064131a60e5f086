/-
  Texts of the vault, in build order: V36, VRead, VMan.
-/
import Derived.Test.YtbfhcbihgleddaaGreatDoorM31
/-
  A number in the base 36 (strconv.FormatUint), and the names of the vault's files.
-/
namespace Go.Proofs.YtbfhcbihgleddaaGreatDoor
open Go.RowKit

theorem pow2_36 (w : World) : Calls Tryz.prog 172 #[.int .i64 36] w fun e w' => e = .returned (.bool false) ∧ w' = w := by
  go_enter Tryz.func172, Tryz.ntmps172
  go_wp2
  go_ret
  exact ⟨rfl, rfl⟩
theorem BoxT.cellAt {t : TypeId} {w : World} {k : Nat} {cs : Array Value} (h : BoxT t w k cs) (j : Nat) : w.cell? ⟨k, j, none⟩ = cs[j]? := by
  unfold BoxT at h
  simp [World.cell?, h]
/-- The digits' letters. -/
def ch36 (d : Nat) : Nat := if d < 10 then 48 + d else 87 + d
/-- A number in the base 36. -/
def d36f : Nat → Nat → List Nat
  | 0, u => [ch36 u]
  | f + 1, u => if u < 36 then [ch36 u] else d36f f (u / 36) ++ [ch36 (u % 36)]
theorem d36f_more (f : Nat) : ∀ g u, u ≤ f → u ≤ g → d36f f u = d36f g u := by
  induction f with
  | zero =>
    intro g u h _
    obtain rfl : u = 0 := by omega
    cases g <;> rfl
  | succ f ih =>
    intro g u h1 h2
    cases g with
    | zero =>
      obtain rfl : u = 0 := by omega
      rfl
    | succ g =>
      unfold d36f
      split
      · rfl
      · rw [ih g (u / 36) (by omega) (by omega)]
def d36 (u : Nat) : List Nat := d36f u u

theorem d36_small {u : Nat} (h : u < 36) : d36 u = [ch36 u] := by
  unfold d36
  cases u with
  | zero => rfl
  | succ u => unfold d36f; rw [if_pos h]
theorem d36_step {u : Nat} (h : 36 ≤ u) : d36 u = d36 (u / 36) ++ [ch36 (u % 36)] := by
  obtain ⟨v, rfl⟩ : ∃ v, u = v + 1 := ⟨u - 1, by omega⟩
  have e : d36 (v + 1) = if v + 1 < 36 then [ch36 (v + 1)] else d36f v ((v + 1) / 36) ++ [ch36 ((v + 1) % 36)] := rfl
  rw [e, if_neg (by omega), d36f_more v ((v + 1) / 36) ((v + 1) / 36) (by omega) (Nat.le_refl _)]
  rfl
/-- The letters as they stand in the library's table. -/
abbrev tab36 : ByteArray := ⟨#[48, 49, 50, 51, 52, 53, 54, 55, 56, 57, 97, 98, 99, 100, 101, 102, 103, 104, 105, 106, 107, 108, 109, 110, 111, 112, 113, 114, 115, 116, 117, 118, 119, 120, 121, 122]⟩
theorem tab36_at : ∀ d, d < 36 → (tab36.data[d]?.map (·.toNat)) = some (ch36 d) := by decide
theorem few36 {u' u n : Nat} (hu : u < 18446744073709551616) (h1 : u' * 36 ^ n ≤ u) (h2 : n = 0 ∨ 1 ≤ u') : n ≤ 12 := by
  rcases h2 with rfl | h2
  · omega
  · by_cases hn : n ≤ 12
    · exact hn
    · have h3 : 36 ^ 13 ≤ 36 ^ n := Nat.pow_le_pow_right (by omega) (by omega)
      have h4 : 36 ^ n ≤ u' * 36 ^ n := Nat.le_mul_of_pos_left _ h2
      have h5 : (36 : Nat) ^ 13 = 170581728179578208256 := by decide
      omega
def Bits36 (w wr : World) (u u' i : Nat) (s : List Nat) : Prop :=
  ∃ cs : Array Value, i + s.length = 65 ∧ u' * 36 ^ s.length ≤ u ∧ (s.length = 0 ∨ 1 ≤ u') ∧ d36 u = d36 u' ++ s ∧ BoxT 238 wr w.heap.size cs ∧ cs.size = 65 ∧ (∀ (j x : Nat), s[j]? = some x → cs[i + j]? = some (.int .u8 (x : Int))) ∧ Below w.heap.size w wr
theorem Bits36.step {w wr : World} {u u' i' : Nat} {s : List Nat} (h : Bits36 w wr u u' (i' + 1) s) (hge : 36 ≤ u') : Bits36 w (wr.setCell ⟨w.heap.size, i', none⟩ (.int .u8 (ch36 (u' % 36) : Nat))) u (u' / 36) i' (ch36 (u' % 36) :: s) := by
  obtain ⟨cs, h1, h2, h3, h4, h5, h6, h7, h8⟩ := h
  refine ⟨cs.setIfInBounds i' (.int .u8 (ch36 (u' % 36) : Nat)), by simp; omega, ?_, .inr (by omega), ?_, h5.set _ _, by simpa using h6, ?_, h8.setCell (Nat.le_refl _) _⟩
  · rw [List.length_cons, Nat.pow_succ]
    have : u' / 36 * (36 ^ s.length * 36) = (u' / 36 * 36) * 36 ^ s.length := by rw [Nat.mul_assoc, Nat.mul_comm 36]
    rw [this]
    exact Nat.le_trans (Nat.mul_le_mul_right _ (Nat.div_mul_le_self _ _)) h2
  · rw [h4, d36_step hge]; simp
  · intro j x hx
    cases j with
    | zero =>
      simp only [List.getElem?_cons_zero, Option.some.injEq] at hx
      subst hx
      simp [Array.getElem?_setIfInBounds]; omega
    | succ j =>
      simp only [List.getElem?_cons_succ] at hx
      rw [Array.getElem?_setIfInBounds_ne (by omega)]
      have := h7 j x hx
      rw [show i' + (j + 1) = i' + 1 + j by omega]; exact this

theorem wu64 {n : Int} (h0 : 0 ≤ n) (h1 : n ≤ 18446744073709551615) : IntKind.u64.wrap n = n := by
  simp [IntKind.wrap, IntKind.bits, IntKind.signed]; omega
theorem tab36_get (d d' : Nat) (h : d < tab36.size) (e : d = d') (h' : d' < 36) : (tab36[d]'h).toNat = ch36 d' := by
  subst e
  have := tab36_at d h'
  have h2 : tab36.data[d]? = some (tab36.data[d]'h) := Array.getElem?_eq_getElem _
  rw [h2] at this
  exact Option.some.inj this
set_option maxHeartbeats 1000000 in
set_option maxRecDepth 100000 in
theorem bits36 (u : Nat) (hu : u < 18446744073709551616) (w : World) : Calls Tryz.prog 163 #[.slice none 0 0, .int .u64 u, .int .i64 36, .bool false, .bool false] w fun e w' => e = .returned (.tuple #[.slice none 0 0, .string (strOf (d36 u))]) ∧ Below w.heap.size w w' := by
  go_enter Tryz.func163, Tryz.ntmps163
  go_wp2_with (go_at_call 172; refine (pow2_36 _).mono ?_; rintro e w' ⟨rfl, rfl⟩)
  go_loopw [1, 13] (fun uv iv wr => ∃ (u' : Nat) (i : Nat) (s : List Nat), uv = .int .u64 u' ∧ iv = .int .i64 i ∧ Hid (Bits36 w wr u u' i s)) (fun uv _ _ => (intOf uv).toNat)
  case atStart => exact ⟨u, 65, [], rfl, rfl, Tryz.zeroCells238, rfl, by simp, .inl rfl, by simp, BoxT.new _ _ _, by kernel_rfl, fun j x h => by simp at h, (Below.refl _ _).alloc (Nat.le_refl _) _⟩
  case round =>
    obtain ⟨u', i, s, rfl, rfl, HI⟩ := hrel
    obtain ⟨cs, h1, h2, h3, g4, g5, h6, g7, g8⟩ := HI.out
    have hs12 := few36 hu h2 h3
    have hu' : u' ≤ u := Nat.le_trans (Nat.le_mul_of_pos_right _ (Nat.pow_pos (by omega))) h2
    obtain ⟨i', rfl⟩ : ∃ i', i = i' + 1 := ⟨i - 1, by omega⟩
    obtain ⟨c0, hc0⟩ : ∃ c, wr.cell? ⟨w.heap.size, i', none⟩ = some c := by
      rw [g5.cellAt]
      exact ⟨cs[i']'(by omega), Array.getElem?_eq_getElem (by omega)⟩
    have hfr := g5.free i'
    have hi : i' < 65 := by omega
    have e1 : ((i' + 1 : Nat) : Int) - 1 = (i' : Int) := by omega
    by_cases hge : 36 ≤ u'
    · have wq : IntKind.u64.wrap ((u' : Int) / 36) = ((u' / 36 : Nat) : Int) := by
        rw [wu64 (by omega) (by omega)]; omega
      have wm : IntKind.u64.wrap (((u' / 36 : Nat) : Int) * 36) = ((u' / 36 * 36 : Nat) : Int) := by
        rw [wu64 (by omega) (by omega)]; omega
      have ws : IntKind.u64.wrap ((u' : Int) - ((u' / 36 * 36 : Nat) : Int)) = ((u' % 36 : Nat) : Int) := by
        rw [wu64 (by omega) (by omega)]; omega
      have hd : ((u' % 36 : Nat) : Int) < 36 := by omega
      have key := HI.out.step hge
      rw [← tab36_get (u' - u' / 36 * 36) (u' % 36) (by show _ < 36; omega) (by omega) (by omega)] at key
      have HK := hide key
      clear key g4 g5 g7 g8 h1 h2 h3 h6
      go_wp2
      refine ⟨⟨u' / 36, i', _, by simp, rfl, HK⟩, ?_⟩
      simp [intOf]; omega
    · have hlt : u' < 36 := by omega
      have key : BoxT 238 (wr.setCell ⟨w.heap.size, i', none⟩ (.int .u8 ((tab36[u']'hlt).toNat : Nat))) w.heap.size (cs.setIfInBounds i' (.int .u8 ((tab36[u']'hlt).toNat : Nat))) ∧ Below w.heap.size w (wr.setCell ⟨w.heap.size, i', none⟩ (.int .u8 ((tab36[u']'hlt).toNat : Nat))) := ⟨g5.set _ _, g8.setCell (Nat.le_refl _) _⟩
      have eu : d36 u = (tab36[u']'hlt).toNat :: s := by rw [g4, d36_small hlt, tab36_get u' u' hlt rfl hlt]; rfl
      have hl : (d36 u).length = 65 - i' := by rw [eu, List.length_cons]; omega
      have hcl : ∀ (j x : Nat), (d36 u)[j]? = some x → (wr.setCell ⟨w.heap.size, i', none⟩ (.int .u8 ((tab36[u']'hlt).toNat : Nat))).cell? ⟨w.heap.size, i' + j, none⟩ = some (.int .u8 (x : Int)) := by
        intro j x hx
        rw [key.1.cellAt]
        rw [eu] at hx
        cases j with
        | zero =>
          simp only [List.getElem?_cons_zero, Option.some.injEq] at hx
          subst hx
          simp [Array.getElem?_setIfInBounds]; omega
        | succ j =>
          simp only [List.getElem?_cons_succ] at hx
          rw [Array.getElem?_setIfInBounds_ne (by omega), show i' + (j + 1) = i' + 1 + j by omega]
          exact g7 j x hx
      have hsl : ∀ W : World, (Instr.sliceAt 238 (.pointer (some ⟨w.heap.size, 0, none⟩)) (some (.int .i64 (i' : Int))) none none).run Tryz.prog W = .ok (.slice (some ⟨w.heap.size, i', none⟩) (65 - i') (65 - i')) W := by
        intro W
        have hal : Tryz.prog.arrayLen 238 = 65 := by kernel_rfl
        have hel : Tryz.prog.elem 238 = 5 := by kernel_rfl
        rw [run_sliceAt_array_l W 238 _ (by rw [hal, hel]; exact Tryz.underlying238) .i64 i' (by omega) (by rw [hal]; omega), hel, Tryz.sizeOf5, hal]
        show Result.ok (slicedAt ⟨w.heap.size, 0, none⟩ ((i' : Int)).toNat 65 65 1) W = _
        rw [Int.toNat_natCast, slicedAt, if_neg (by omega)]
        simp [Addr.add]; omega
      have hcv := seg_convert (w := wr.setCell ⟨w.heap.size, i', none⟩ (.int .u8 ((tab36[u']'hlt).toNat : Nat))) (v := .slice (some ⟨w.heap.size, i', none⟩) (65 - i') (65 - i')) (l := d36 u) ⟨_, 65 - i', by rw [hl], by omega, by omega, by omega, .inr ⟨_, i', rfl, key.1.lt, hcl⟩⟩
      have HB := hide key.2
      clear key hcl eu hl g4 g5 g7 g8 h1 h2 h3 h6
      go_wp2
      go_ret2
      exact ⟨rfl, HB.out⟩
/-- A number's letters, as a string. -/
def n36 (u : Nat) : ByteArray := strOf (d36 u)
theorem fmtU_any (u : Nat) (hu : u < 18446744073709551616) (w : World) : Calls Tryz.prog 145 #[.int .u64 u, .int .i64 36] w fun e w' => e = .returned (.string (n36 u)) ∧ Below w.heap.size w w' := by
  go_enter Tryz.func145, Tryz.ntmps145
  go_wp2_with fail
  refine (bits36 u hu w).mono ?_
  rintro e w' ⟨rfl, hb⟩
  go_wp2
  go_ret
  exact ⟨rfl, hb⟩
theorem fmtUint_any (u : Nat) (hu : u < 18446744073709551616) (w : World) : Calls Tryz.prog 118 #[.int .u64 u, .int .i64 36] w fun e w' => e = .returned (.string (n36 u)) ∧ Below w.heap.size w w' := by
  go_enter Tryz.func118, Tryz.ntmps118
  go_wp2_with fail
  refine (fmtU_any u hu w).mono ?_
  rintro e w' ⟨rfl, hb⟩
  go_wp2
  go_ret
  exact ⟨rfl, hb⟩
theorem num36_any (u : Nat) (hu : u < 18446744073709551616) (w : World) : Calls Tryz.prog 83 #[.int .u64 u] w fun e w' => e = .returned (.string (n36 u)) ∧ Below w.heap.size w w' := by
  go_enter Tryz.func83, Tryz.ntmps83
  go_wp2_with fail
  refine (fmtUint_any u hu w).mono ?_
  rintro e w' ⟨rfl, hb⟩
  go_wp2
  go_ret
  exact ⟨rfl, hb⟩
def wholeN (n : Nat) : ByteArray := ⟨#[119, 104, 111, 108, 101, 46]⟩ ++ n36 n
def freshN (n : Nat) : ByteArray := ⟨#[110, 101, 119, 46]⟩ ++ n36 n
theorem d36_len : ∀ (n u : Nat), u < 36 ^ (n + 1) → (d36 u).length ≤ n + 1 := by
  intro n
  induction n with
  | zero => intro u h; rw [d36_small (by simpa using h)]; simp
  | succ n ih =>
    intro u h
    by_cases hu : u < 36
    · rw [d36_small hu]; simp
    · rw [d36_step (by omega), List.length_append]
      have := ih (u / 36) (by rw [Nat.div_lt_iff_lt_mul (by omega)]; rw [Nat.pow_succ] at h; exact h)
      simp only [List.length_cons, List.length_nil]; omega
theorem n36_size {u : Nat} (hu : u < 18446744073709551616) : (n36 u).size ≤ 13 := by
  have := d36_len 12 u (Nat.lt_of_lt_of_le hu (by decide))
  show ((d36 u).map UInt8.ofNat).toArray.size ≤ 13
  simpa using this
theorem wholeName_any (u : Nat) (hu : u < 18446744073709551616) (w : World) : Calls Tryz.prog 71 #[.int .u64 u] w fun e w' => e = .returned (.string (wholeN u)) ∧ Below w.heap.size w w' := by
  go_enter Tryz.func71, Tryz.ntmps71
  go_wp2_with fail
  refine (num36_any u hu w).mono ?_
  rintro e w' ⟨rfl, hb⟩
  have hz := n36_size hu
  go_wp2
  go_ret
  exact ⟨rfl, hb⟩
theorem freshName_any (u : Nat) (hu : u < 18446744073709551616) (w : World) : Calls Tryz.prog 69 #[.int .u64 u] w fun e w' => e = .returned (.string (freshN u)) ∧ Below w.heap.size w w' := by
  go_enter Tryz.func69, Tryz.ntmps69
  go_wp2_with fail
  refine (num36_any u hu w).mono ?_
  rintro e w' ⟨rfl, hb⟩
  have hz := n36_size hu
  go_wp2
  go_ret
  exact ⟨rfl, hb⟩
end Go.Proofs.YtbfhcbihgleddaaGreatDoor
/-
  What the vault reads from a disk: a file that is one seal, a manifest.
-/
namespace Go.Proofs.YtbfhcbihgleddaaGreatDoor
open Go.RowKit

/-- Does a name begin so? -/
def pre (p s : List UInt8) : Bool := s.take p.length == p
theorem extract_nm (s : ByteArray) (k : Nat) : nm (s.extract 0 k) = (nm s).take k := by
  simp [nm, ByteArray.data_extract]
theorem pre_eq (s p : ByteArray) : (decide (p.size ≤ s.size) && ((s.extract 0 p.size).toList == p.toList)) = pre (nm p) (nm s) := by
  rw [ByteArray.toList_eq, ByteArray.toList_eq]
  show (decide (p.size ≤ s.size) && (nm (s.extract 0 p.size) == nm p)) = _
  rw [extract_nm, pre, nm_length]
  by_cases h : p.size ≤ s.size
  · simp [h]
  · have : ((nm s).take p.size == nm p) = false := by
      simp only [beq_eq_false_iff_ne, ne_eq]
      intro e
      have := congrArg List.length e
      rw [List.length_take, nm_length, nm_length] at this
      omega
    rw [this]; simp
set_option maxRecDepth 100000 in
theorem pre_core (s p : ByteArray) (_hs : s.size ≤ maxLen) (_hp : p.size ≤ 1000) (w : World) : Calls Tryz.prog 115 #[.string s, .string p] w fun e w' => e = .returned (.bool (pre (nm p) (nm s))) ∧ w' = w := by
  have he := pre_eq s p
  by_cases h : p.size ≤ s.size
  · rw [decide_eq_true h, Bool.true_and] at he
    rw [← he]
    clear he
    go_enter Tryz.func115, Tryz.ntmps115
    go_wp2
    go_ret
    exact ⟨rfl, rfl⟩
  · rw [decide_eq_false h, Bool.false_and] at he
    rw [← he]
    clear he
    go_enter Tryz.func115, Tryz.ntmps115
    go_wp2
    go_ret
    exact ⟨rfl, rfl⟩
theorem prefix_any (s p : ByteArray) (hs : s.size ≤ maxLen) (hp : p.size ≤ 1000) (w : World) : Calls Tryz.prog 81 #[.string s, .string p] w fun e w' => e = .returned (.bool (pre (nm p) (nm s))) ∧ w' = w := by
  have hc := pre_core s p hs hp w
  go_enter Tryz.func81, Tryz.ntmps81
  go_wp2_with fail
  refine hc.mono ?_
  rintro e w' ⟨rfl, rfl⟩
  go_wp2
  go_ret
  exact ⟨rfl, rfl⟩
def hPart : List UInt8 := [112, 97, 114, 116, 46]
def hWhole : List UInt8 := [119, 104, 111, 108, 101, 46]
def hNew : List UInt8 := [110, 101, 119, 46]
/-- Is it a name that the vault gives? -/
def ownN (s : List UInt8) : Bool := pre hPart s || (pre hWhole s || pre hNew s)
set_option maxRecDepth 100000 in
theorem own_any (s : ByteArray) (hs : s.size ≤ maxLen) (w : World) : Calls Tryz.prog 64 #[.string s] w fun e w' => e = .returned (.bool (ownN (nm s))) ∧ w' = w := by
  have h1 := prefix_any s ⟨#[112, 97, 114, 116, 46]⟩ hs (by decide) w
  have h2 := prefix_any s ⟨#[119, 104, 111, 108, 101, 46]⟩ hs (by decide) w
  have h3 := prefix_any s ⟨#[110, 101, 119, 46]⟩ hs (by decide) w
  have e1 : nm ⟨#[112, 97, 114, 116, 46]⟩ = hPart := rfl
  have e2 : nm ⟨#[119, 104, 111, 108, 101, 46]⟩ = hWhole := rfl
  have e3 : nm ⟨#[110, 101, 119, 46]⟩ = hNew := rfl
  rw [e1] at h1
  rw [e2] at h2
  rw [e3] at h3
  unfold ownN
  clear e1 e2 e3
  generalize pre hPart (nm s) = a at *
  generalize pre hWhole (nm s) = b at *
  generalize pre hNew (nm s) = c at *
  go_enter Tryz.func64, Tryz.ntmps64
  go_wp2_with fail
  refine h1.mono ?_
  rintro e w' ⟨rfl, rfl⟩
  cases a
  · go_wp2_with fail
    refine h2.mono ?_
    rintro e w' ⟨rfl, rfl⟩
    cases b
    · go_wp2_with fail
      refine h3.mono ?_
      rintro e w' ⟨rfl, rfl⟩
      go_wp2
      go_ret
      exact ⟨rfl, rfl⟩
    · go_wp2
      go_ret
      exact ⟨rfl, rfl⟩
  · go_wp2
    go_ret
    exact ⟨rfl, rfl⟩
/-- The name of a chunk. -/
def partN (n i c : Nat) : ByteArray := ⟨#[112, 97, 114, 116, 46]⟩ ++ n36 n ++ ⟨#[46]⟩ ++ n36 i ++ ⟨#[46]⟩ ++ n36 c
theorem size_append (a b : ByteArray) : (a ++ b).size = a.size + b.size := by simp
set_option maxRecDepth 100000 in
theorem partName_any (n i : Nat) (hn : n < 18446744073709551616) (hi : i ≤ 140737488355328) (v : Value) (l : List Nat) (w : World) (h : Seg w v l) (hb : Byts l) (hg : Glob w) :
    Calls Tryz.prog 57 #[.int .u64 n, .int .i64 i, v] w fun e w' => e = .returned (.string (partN n i (crc l))) ∧ Below w.heap.size w w' := by
  have hc : crc l < 4294967296 := crc_lt l hb
  have z1 := n36_size hn
  have z2 := n36_size (u := i) (by omega)
  have z3 := n36_size (u := crc l) (by omega)
  have hi' : IntKind.u64.wrap (i : Int) = (i : Int) := wu64 (by omega) (by omega)
  have s0 : (⟨#[46]⟩ : ByteArray).size = 1 := rfl
  have s1 : (⟨#[112, 97, 114, 116, 46]⟩ ++ n36 n : ByteArray).size ≤ 18 := by rw [size_append]; show 5 + _ ≤ _; omega
  have s2 : (⟨#[112, 97, 114, 116, 46]⟩ ++ n36 n ++ ⟨#[46]⟩ : ByteArray).size ≤ 19 := by rw [size_append]; omega
  have s3 : (⟨#[112, 97, 114, 116, 46]⟩ ++ n36 n ++ ⟨#[46]⟩ ++ n36 i : ByteArray).size ≤ 32 := by rw [size_append]; omega
  have s4 : (⟨#[112, 97, 114, 116, 46]⟩ ++ n36 n ++ ⟨#[46]⟩ ++ n36 i ++ ⟨#[46]⟩ : ByteArray).size ≤ 33 := by rw [size_append]; omega
  have HG := hide hg
  have HS := hide h
  clear h hg
  go_enter Tryz.func57, Tryz.ntmps57
  go_wp2_with fail
  refine (num36_any n hn w).mono ?_
  rintro e w1 ⟨rfl, b1⟩
  have B1 := hide b1
  clear b1
  go_wp2_with fail
  refine (num36_any i (by omega) w1).mono ?_
  rintro e w2 ⟨rfl, b2⟩
  have B2 := hide (B1.out.trans (b2.mono B1.out.size))
  clear b2 B1
  go_wp2_with fail
  refine (Sum_any v l w2 (HS.out.below B2.out) hb (HG.out.below B2.out HG.out.1)).mono ?_
  rintro e w3 ⟨rfl, rfl⟩
  have hcw : IntKind.u64.wrap (crc l : Int) = (crc l : Int) := wu64 (by omega) (by omega)
  go_wp2_with fail
  refine (num36_any (crc l) (by omega) w3).mono ?_
  rintro e w4 ⟨rfl, b4⟩
  have B4 := hide (B2.out.trans (b4.mono B2.out.size))
  clear b4 B2
  go_wp2
  go_ret
  exact ⟨rfl, B4.out⟩
/-- What a file was written with, if it is one seal. -/
def opn1 (l : List Nat) : Option (List Nat) := match rOpen l with | some x => if 8 + x.length = l.length then some x else none | none => none
def rdF (p : Pd) (s : List UInt8) : Option (List Nat) := match (pFind p s).1 with | some f => opn1 f.x | none => none
theorem num_byts {k : Nat} {s : List Nat × Bool} (h : Byts s.1) : Byts (num k s).2.1 := by
  by_cases hk : k ≤ s.1.length
  · rw [num_yes hk]; exact h.drop k
  · rw [num_no hk]; exact h
theorem rOpen_byts {l x : List Nat} (h : Byts l) (hr : rOpen l = some x) : Byts x := by
  unfold rOpen at hr
  split at hr
  · cases hr
    exact (num_byts (num_byts h)).take _
  · cases hr
theorem rdF_byts {p : Pd} {n : Nat} (ho : Ok p n) {s : List UInt8} {l : List Nat} (h : rdF p s = some l) : Byts l ∧ l.length ≤ 1048576 := by
  unfold rdF at h
  cases hf : (pFind p s).1 with
  | none => rw [hf] at h; cases h
  | some f =>
    rw [hf] at h
    have hm := (fGet_mem (pFind_some hf).2.2).1
    dsimp only at h
    unfold opn1 at h
    cases hr : rOpen f.x with
    | none => rw [hr] at h; cases h
    | some x =>
      rw [hr] at h
      dsimp only at h
      split at h
      · cases h
        have := ho.size f hm
        exact ⟨rOpen_byts (ho.byts f hm) hr, by omega⟩
      · cases h
/-- What readFile leaves. -/
def RFPost (w : World) (r : Option (List Nat)) (e : Ending) (w' : World) : Prop :=
  (∃ l v, r = some l ∧ e = .returned (.tuple #[v, .bool true]) ∧ Own w.heap.size w' v l ∧ Below w.heap.size w w') ∨ (r = none ∧ e = .returned (.tuple #[.slice none 0 0, .bool false]) ∧ Below w.heap.size w w')
set_option maxRecDepth 100000 in
theorem readFile_any {w0 w : World} {k b n : Nat} {p : Pd} (h : St w0 w k b n p) (hg : Glob w) (s : ByteArray) (hs : s.size ≤ maxLen) (r : Option (List Nat)) (hr : rdF p (nm s) = r) :
    Calls Tryz.prog 56 #[.pointer (some ⟨k, 0, none⟩), .string s] w (RFPost w r) := by
  obtain ⟨o, er, hp⟩ : ∃ o er, pFind p (nm s) = (o, er) := ⟨_, _, rfl⟩
  unfold rdF at hr
  rw [hp] at hr
  have hc := kRead h s hs o er hp
  have HO : Hid (∀ f, o = some f → Byts f.x ∧ f.x.length ≤ 1048576 ∧ er = 0) := fun f hf => by
    have h1 : (pFind p (nm s)).1 = some f := by rw [hp]; exact hf
    have h2 := pFind_some h1
    have hm := (fGet_mem h2.2.2).1
    rw [hp] at h2
    exact ⟨h.d.ok.byts f hm, h.d.ok.size f hm, h2.1⟩
  have HE : Hid (o = none → er = 23 ∨ er = 20) := fun ho => by
    subst ho
    unfold pFind at hp
    split at hp
    · cases hp; decide
    · split at hp
      · cases hp
      · cases hp; decide
  have HG := hide hg
  clear h hg hp
  go_enter Tryz.func56, Tryz.ntmps56
  go_wp2_with fail
  refine hc.mono ?_
  rintro e w1 ⟨v1, rfl, s1, h1, b1⟩
  cases o with
  | none =>
    have he := HE.out rfl
    have HR := hide (Eq.symm hr)
    obtain ⟨ao, cap, rfl, _, _, _, _⟩ := id s1
    have B1 := hide b1
    clear hc HO HE s1 h1 hr b1
    have hfd : (fData none).length = 0 := rfl
    rw [hfd]
    rcases he with rfl | rfl
    all_goals
      go_wp2
      go_ret2
      exact .inr ⟨HR.out, rfl, B1.out⟩
  | some f =>
    obtain ⟨hby, hlen, rfl⟩ := HO.out f rfl
    have ho := Open_any v1 f.x w1 s1 hby (HG.out.below b1 HG.out.1)
    have hr' : opn1 f.x = r := hr
    obtain ⟨ao, cap, rfl, _, _, _, _⟩ := id s1
    have hfd : (fData (some f)).length = f.x.length := rfl
    rw [hfd]
    have B1 := hide b1
    clear hc HO HE s1 h1 hr b1
    generalize hro : rOpen f.x = ro at *
    unfold opn1 at hr'
    rw [hro] at hr'
    go_wp2_with fail
    refine ho.mono ?_
    intro e w2 hq
    rcases hq with ⟨l, v', rfl, rfl, ow, b2⟩ | ⟨rfl, rfl, b2⟩
    · have B2 := hide (B1.out.trans (b2.mono B1.out.size))
      have OW := hide (ow.mono B1.out.size)
      dsimp only at hr'
      by_cases hl : 8 + l.length = f.x.length
      · rw [if_pos hl] at hr'
        have hl' : (8 : Int) + (l.length : Int) = (f.x.length : Int) := by omega
        clear ow b2 ho hro
        go_wp2
        go_ret2
        exact .inl ⟨l, _, hr'.symm, rfl, OW.out, B2.out⟩
      · rw [if_neg hl] at hr'
        have hl' : ¬ (8 : Int) + (l.length : Int) = (f.x.length : Int) := by omega
        clear ow b2 ho hro
        go_wp2
        go_ret2
        exact .inr ⟨hr'.symm, rfl, B2.out⟩
    · have B2 := hide (B1.out.trans (b2.mono B1.out.size))
      clear b2 ho hro
      go_wp2
      go_ret2
      exact .inr ⟨hr'.symm, rfl, B2.out⟩
end Go.Proofs.YtbfhcbihgleddaaGreatDoor
/-
  The vault's readManifest.
-/
namespace Go.Proofs.YtbfhcbihgleddaaGreatDoor
open Go.RowKit

/-- The manifest that lies under a name, if it is one, and the name is its own. -/
def rdM (p : Pd) (s : List UInt8) : Option Man :=
  if pre hWhole s then
    match rdF p s with
    | some l => if done (rMan (l, false)).2 = true ∧ (rMan (l, false)).1.n ≠ 0 ∧ s = nm (wholeN (rMan (l, false)).1.n) then some (rMan (l, false)).1 else none
    | none => none
  else none
def RMPost (w : World) (r : Option Man) (e : Ending) (w' : World) : Prop :=
  (∃ m v, r = some m ∧ e = .returned (.tuple #[.agg #[.int .u64 m.n, .int .u64 m.ep, v], .bool true]) ∧ OwnS w.heap.size w' v m.ss ∧ Below w.heap.size w w') ∨ (r = none ∧ e = .returned (.tuple #[.agg #[.int .u64 0, .int .u64 0, .slice none 0 0], .bool false]) ∧ Below w.heap.size w w')
theorem man_lt {l : List Nat} (hb : Byts l) : (rMan (l, false)).1.n < 18446744073709551616 ∧ (rMan (l, false)).1.ep < 18446744073709551616 := by
  have h1 := num_lt (k := 8) (s := (l, false)) hb
  have h2 := num_lt (k := 8) (s := (num 8 (l, false)).2) (num_byts hb)
  exact ⟨h1, h2⟩
theorem beq_string (s t : ByteArray) : (s.toList == t.toList) = decide (s = t) := by
  rw [ByteArray.toList_eq, ByteArray.toList_eq]
  by_cases h : s = t
  · subst h; simp
  · rw [decide_eq_false h]
    simp only [beq_eq_false_iff_ne, ne_eq]
    intro e; exact h (nm_inj e)

set_option maxHeartbeats 1000000 in
set_option maxRecDepth 100000 in
theorem readMan_any {w0 w : World} {k b n : Nat} {p : Pd} (h : St w0 w k b n p) (hg : Glob w) (s : ByteArray) (hs : s.size ≤ maxLen) (r : Option Man) (hr : rdM p (nm s) = r) :
    Calls Tryz.prog 55 #[.pointer (some ⟨k, 0, none⟩), .string s] w (RMPost w r) := by
  have hp := prefix_any s ⟨#[119, 104, 111, 108, 101, 46]⟩ hs (by decide)
  have e2 : nm ⟨#[119, 104, 111, 108, 101, 46]⟩ = hWhole := rfl
  rw [e2] at hp
  have bA := BoxT.new 110 w #[.int .u64 0, .int .u64 0, .slice none 0 0]
  have hb0 : Below w.heap.size w (w.alloc (.cells #[.int .u64 0, .int .u64 0, .slice none 0 0] 110)) := (Below.refl _ _).alloc (Nat.le_refl _) _
  have HS := hide (h.below hb0)
  have HG := hide (hg.below hb0 hg.1)
  have HOK := hide h.d.ok
  clear h hg e2
  unfold rdM at hr
  generalize hpw : pre hWhole (nm s) = pw at *
  obtain ⟨d0, d1, d2⟩ := bA.cells3
  have fa := bA.free
  go_enter Tryz.func55, Tryz.ntmps55
  go_wp2_with fail
  refine (hp _).mono ?_
  rintro e w1 ⟨rfl, rfl⟩
  cases pw
  · have HR := hide (Eq.symm hr)
    clear hr hp
    go_wp2
    exact bodyPost_ret (v := .tuple #[.agg #[.int .u64 0, .int .u64 0, .slice none 0 0], .bool false]) (by simp [results, Tryz.results55, go_sem, d0, d1, d2]) rfl (.inr ⟨HR.out, rfl, hb0⟩)
  · generalize hrf : rdF p (nm s) = rf at *
    have HRF := hide hrf
    have hf := readFile_any HS.out HG.out s hs rf hrf
    rw [if_pos rfl] at hr
    have HR := hide hr
    have HB0 := hide hb0
    clear hr hp hrf hb0
    go_wp2_with fail
    refine hf.mono ?_
    intro e w2 hq
    rcases hq with ⟨l, v2, rfl, rfl, ow, b2⟩ | ⟨rfl, rfl, b2⟩
    · have hl := rdF_byts HOK.out HRF.out
      obtain ⟨ao, cap, hv2, _⟩ := ow.seg (by omega)
      rw [hv2] at ow ⊢
      have hom := OpenManifest_any _ l w2 (ow.seg (by omega)) hl.1
      have hlt := man_lt hl.1
      have HR1 : Hid ((if done (rMan (l, false)).2 = true ∧ (rMan (l, false)).1.n ≠ 0 ∧ nm s = nm (wholeN (rMan (l, false)).1.n) then some (rMan (l, false)).1 else none) = r) := HR
      have B2 := hide (HB0.out.trans (b2.mono (by simp)))
      have bA2 := bA.kept (base := 0) (Kept.of_below b2) (by decide)
      clear HR HRF hf ow b2 bA d0 d1 d2 fa HB0
      generalize done (rMan (l, false)).2 = ok at *
      generalize (rMan (l, false)).1 = m at *
      go_wp2_with fail
      refine hom.mono ?_
      intro e w3 hq
      unfold OMPost at hq
      obtain ⟨v3, rfl, ow3, b3⟩ := hq
      have B3 := hide (B2.out.trans (b3.mono B2.out.size))
      have bA3 := bA2.kept (base := 0) (Kept.of_below b3) (by decide)
      have OW3 := hide (ow3.mono B2.out.size)
      have hw3 : w.heap.size < w3.heap.size := Nat.lt_of_lt_of_le bA2.lt b3.size
      obtain ⟨ao3, cap3, hv3⟩ := ow3.shape
      rw [hv3] at OW3 ⊢
      clear hom ow3 b3 bA2 B2 hv3
      cases ok
      · have HR2 := hide (Eq.symm HR1.out)
        rw [if_neg (by simp)] at HR2
        clear HR1
        obtain ⟨c0, c1, c2⟩ := bA3.cells3
        have fa4 := bA3.free
        go_wp2
        obtain ⟨hW, hx, hown⟩ := fin3 bA3 (.int .u64 0) (.int .u64 0) (.slice none 0 0) _ rfl
        obtain ⟨x0, x1, x2⟩ := (hx.alloc (.cells #[.int .u64 0, .int .u64 0, .slice ao3 0 cap3] 110)).cells3
        exact bodyPost_ret (v := .tuple #[.agg #[.int .u64 0, .int .u64 0, .slice none 0 0], .bool false]) (by simp [results, Tryz.results55, go_sem, x0, x1, x2]) rfl (.inr ⟨HR2.out, rfl, (B3.out.trans hW).alloc (Nat.le_of_lt (Nat.lt_of_lt_of_le hw3 hW.size)) _⟩)
      · obtain ⟨mn, mep, mss⟩ := m
        have hss : (if true = true then mss else []) = mss := rfl
        obtain ⟨c0, c1, c2⟩ := bA3.cells3
        have fa4 := bA3.free
        by_cases hn0 : mn = 0
        · subst hn0
          have HR2 := hide (Eq.symm HR1.out)
          rw [if_neg (by simp)] at HR2
          clear HR1
          go_wp2
          obtain ⟨hW, hx, hown⟩ := fin3 bA3 (.int .u64 0) (.int .u64 0) (.slice none 0 0) _ rfl
          obtain ⟨x0, x1, x2⟩ := (hx.alloc (.cells #[.int .u64 0, .int .u64 mep, .slice ao3 mss.length cap3] 110)).cells3
          exact bodyPost_ret (v := .tuple #[.agg #[.int .u64 0, .int .u64 0, .slice none 0 0], .bool false]) (by simp [results, Tryz.results55, go_sem, x0, x1, x2]) rfl (.inr ⟨HR2.out, rfl, (B3.out.trans hW).alloc (Nat.le_of_lt (Nat.lt_of_lt_of_le hw3 hW.size)) _⟩)
        · have hn1 : ¬ ((mn : Int) = 0) := by omega
          have bM := BoxT.new 110 w3 #[.int .u64 mn, .int .u64 mep, .slice ao3 mss.length cap3]
          have bA4 := bA3.alloc (.cells #[.int .u64 mn, .int .u64 mep, .slice ao3 mss.length cap3] 110)
          have OW4 := hide (OW3.out.alloc (.cells #[.int .u64 mn, .int .u64 mep, .slice ao3 mss.length cap3] 110))
          have B4 := hide (B3.out.alloc (Nat.le_of_lt hw3) (.cells #[.int .u64 mn, .int .u64 mep, .slice ao3 mss.length cap3] 110))
          have hwn := wholeName_any mn hlt.1
          clear OW3 B3 bA3
          go_wp2_with fail
          refine (hwn _).mono ?_
          rintro e w5 ⟨rfl, b5⟩
          have bM5 := bM.kept (base := 0) (Kept.of_below b5) (by decide)
          have bA5 := bA4.kept (base := 0) (Kept.of_below b5) (by decide)
          have OW5 := hide (OW4.out.below b5)
          have B5 := hide (B4.out.trans (b5.mono B4.out.size))
          have hbs := beq_string s (wholeN mn)
          obtain ⟨g0, g1, g2⟩ := bA5.cells3
          obtain ⟨m0, m1, m2⟩ := bM5.cells3
          have fa5 := bA5.free
          clear hwn b5 bM bA4 OW4 B4 c0 c1 c2 fa4
          by_cases he : s = wholeN mn
          · have HR2 := hide (Eq.symm HR1.out)
            rw [if_pos ⟨by simp, hn0, congrArg nm he⟩] at HR2
            rw [decide_eq_true he] at hbs
            clear HR1 he
            go_wp2
            obtain ⟨hW, hx, hown⟩ := fin3 bA5 (.int .u64 mn) (.int .u64 mep) (.slice ao3 mss.length cap3) _ rfl
            obtain ⟨x0, x1, x2⟩ := hx.cells3
            exact bodyPost_ret (v := .tuple #[.agg #[.int .u64 mn, .int .u64 mep, .slice ao3 mss.length cap3], .bool true]) (by simp [results, Tryz.results55, go_sem, x0, x1, x2]) rfl (.inl ⟨_, _, HR2.out, rfl, hown _ _ _ OW5.out, B5.out.trans hW⟩)
          · have HR2 := hide (Eq.symm HR1.out)
            rw [if_neg (fun hh => he (nm_inj hh.2.2))] at HR2
            rw [decide_eq_false he] at hbs
            clear HR1 he
            go_wp2
            obtain ⟨hW, hx, hown⟩ := fin3 bA5 (.int .u64 0) (.int .u64 0) (.slice none 0 0) _ rfl
            obtain ⟨x0, x1, x2⟩ := hx.cells3
            exact bodyPost_ret (v := .tuple #[.agg #[.int .u64 0, .int .u64 0, .slice none 0 0], .bool false]) (by simp [results, Tryz.results55, go_sem, x0, x1, x2]) rfl (.inr ⟨HR2.out, rfl, B5.out.trans hW⟩)
    · have bA2 := bA.kept (base := 0) (Kept.of_below b2) (by decide)
      obtain ⟨c0, c1, c2⟩ := bA2.cells3
      have fa2 := bA2.free
      have HR1 := hide (Eq.symm HR.out)
      have B2 := hide (HB0.out.trans (b2.mono (by simp)))
      clear HR hf b2 d0 d1 d2 fa
      go_wp2
      obtain ⟨hW, hx, hown⟩ := fin3 bA2 (.int .u64 0) (.int .u64 0) (.slice none 0 0) _ rfl
      obtain ⟨x0, x1, x2⟩ := hx.cells3
      exact bodyPost_ret (v := .tuple #[.agg #[.int .u64 0, .int .u64 0, .slice none 0 0], .bool false]) (by simp [results, Tryz.results55, go_sem, x0, x1, x2]) rfl (.inr ⟨HR1.out, rfl, B2.out.trans hW⟩)
end Go.Proofs.YtbfhcbihgleddaaGreatDoor

/-
  Texts of the vault, in build order: Man, Pie, Lists.
-/
import Derived.Test.YtbfhcbihgleddaaGreatDoorM07
import Derived.Lib.AppendStr
import Derived.Test.YtbfhcbihgleddaaGreatDoorM04
/-
  Walks over package codec's writers of manifests.
-/
namespace Go.Proofs.YtbfhcbihgleddaaGreatDoor
open Go.RowKit

/-- A string's bytes. -/
def sb (s : ByteArray) : List Nat := s.data.toList.map fun b => b.toNat
theorem sb_length (s : ByteArray) : (sb s).length = s.size := by
  simp only [sb, List.length_map, Array.length_toList]; rfl
theorem sb_byts (s : ByteArray) : Byts (sb s) := by
  intro i x hx
  rw [sb, List.getElem?_map] at hx
  obtain ⟨b, _, rfl⟩ := Option.map_eq_some_iff.1 hx
  exact b.toNat_lt
theorem bs_sb (s : ByteArray) : bs (sb s) = Lib.strCells s := by simp [bs, sb, Lib.strCells, Function.comp_def]

/-- append's law at rows of bytes, the source a string. -/
theorem app_str {w : World} {ops : Array Oper} {rest : List Oper} {o : Oper} {a : Act} {Q : Exit → Act → World → Prop} (hgd : o.guard = none) (s x : Operand)
    (ho : o.op = .call { callee := .builtin .append, args := #[s, x], argTypes := #[22, 9] }) (base : Nat) (v : Value) (l : List Nat) (hs : a.eval s = v) (hown : Own base w v l)
    (st : ByteArray) (hx : a.eval x = .string st) (hl : l.length + st.size ≤ 100000000000) (hbase : base ≤ w.heap.size)
    (h : ∀ v' w', Own base w' v' (l ++ sb st) → Kept base w w' → wpList Tryz.prog ops Q rest (a.put o.dst v') w') : wpList Tryz.prog ops Q (o :: rest) a w := by
  obtain ⟨i0, hi, hz0, hz1, hz2⟩ := info_parts Tryz.info5
  refine Lib.wpList_append_own_string w hgd s x 22 9 ho base 5 i0 Tryz.underlying22 Tryz.underlying9 hi hz0 hz1 hz2 v l.length (bs l) hs hown st hx (by unfold maxLen; omega) (by omega) hbase ?_
  intro v' w' h1 h2 _
  refine h v' w' ?_ (Kept.of_grown hown h2)
  show w'.ownsRow base 5 1 v' (l ++ sb st).length (bs (l ++ sb st))
  rw [List.length_append, bs_append, sb_length, bs_sb]; exact h1

/-- A name's bytes. -/
def nameb (s : ByteArray) : List Nat := s.size :: sb s

set_option maxHeartbeats 1000000 in
set_option maxRecDepth 100000 in
theorem writeName_any (base : Nat) (v : Value) (l : List Nat) (s : ByteArray) (w : World) (hs : s.size ≤ 32) (hl : l.length ≤ 10000000000) (hb : base ≤ w.heap.size) (hown : Own base w v l) :
    Calls Tryz.prog 149 #[v, .string s] w fun e w' => ∃ v', e = .returned v' ∧ Own base w' v' (l ++ nameb s) ∧ Kept base w w' := by
  go_enter Tryz.func149, Tryz.ntmps149
  go_wp2_with (first | (at_builtin; refine app_own rfl _ _ rfl base _ _ rfl (hown.alloc _) ⟨w.heap.size, 0, none⟩ 1 [s.size] rfl (one_cell w s.size) ?c1 ?c2 ?_) | fail)
  case c1 => simp; omega
  case c2 => simp; omega
  intro v1 w1 ho1 hk1
  have hk := ((Kept.refl base w).alloc _).trans hk1
  have hz := hk.size
  clear hk1
  go_wp2_with (first | (at_builtin; refine app_str rfl _ _ rfl base _ _ rfl ho1 s rfl ?d1 ?d2 ?_) | fail)
  case d1 => simp; omega
  case d2 => omega
  intro v2 w2 ho2 hk2
  have hk := hk.trans hk2
  go_wp2
  go_ret
  exact ⟨_, rfl, by simpa [nameb] using ho2, hk⟩

/-- v is a slice of just the strings ss, which lie below block B. -/
def SSeg (B : Nat) (w : World) (v : Value) (ss : List ByteArray) : Prop :=
  ∃ ao cap, v = .slice ao ss.length cap ∧ ss.length ≤ 140737488355328 ∧ (ss = [] ∨ ∃ b off, ao = some ⟨b, off, none⟩ ∧ b < B ∧ ∀ (i : Nat) (s : ByteArray), ss[i]? = some s → w.cell? ⟨b, off + i, none⟩ = some (.string s))
theorem SSeg.kept {B : Nat} {w w' : World} {v : Value} {ss : List ByteArray} (h : SSeg B w v ss) (hk : Kept B w w') (hB : B ≤ w.heap.size) : SSeg B w' v ss := by
  obtain ⟨ao, cap, h1, h2, h4⟩ := h
  refine ⟨ao, cap, h1, h2, ?_⟩
  rcases h4 with h4 | ⟨b, off, h5, h6, h7⟩
  · exact .inl h4
  · exact .inr ⟨b, off, h5, h6, fun i x hi => (World.cell?_of_block (hk.block b (by omega) (.inl h6))).trans (h7 i x hi)⟩
theorem SSeg.mono {B B' : Nat} {w : World} {v : Value} {ss : List ByteArray} (h : SSeg B w v ss) (hB : B ≤ B') : SSeg B' w v ss := by
  obtain ⟨ao, cap, h1, h2, h4⟩ := h
  refine ⟨ao, cap, h1, h2, ?_⟩
  rcases h4 with h4 | ⟨b, off, h5, h6, h7⟩
  · exact .inl h4
  · exact .inr ⟨b, off, h5, by omega, h7⟩
theorem SSeg.below {B : Nat} {w w' : World} {v : Value} {ss : List ByteArray} (h : SSeg B w v ss) (hb : Below B w w') : SSeg B w' v ss := by
  obtain ⟨ao, cap, h1, h2, h4⟩ := h
  refine ⟨ao, cap, h1, h2, ?_⟩
  rcases h4 with h4 | ⟨b, off, h5, h6, h7⟩
  · exact .inl h4
  · exact .inr ⟨b, off, h5, h6, fun i x hi => (hb.cell (p := ⟨b, off + i, none⟩) h6).trans (h7 i x hi)⟩

def namesb (ss : List ByteArray) : List Nat := ss.flatMap nameb
theorem namesb_len (ss : List ByteArray) (h : ∀ s ∈ ss, s.size ≤ 32) : (namesb ss).length ≤ 33 * ss.length := by
  induction ss with
  | nil => simp [namesb]
  | cons s ss ih =>
    have h1 := h s (by simp)
    have h2 := ih (fun t ht => h t (by simp [ht]))
    simp only [namesb, List.flatMap_cons, List.length_append, nameb, List.length_cons, sb_length] at *
    omega
theorem namesb_snoc (ss : List ByteArray) (k : Nat) (s : ByteArray) (h : ss[k]? = some s) : namesb (ss.take (k + 1)) = namesb (ss.take k) ++ nameb s := by
  unfold namesb
  rw [List.take_add_one, h, List.flatMap_append]; simp

set_option maxHeartbeats 1000000 in
set_option maxRecDepth 100000 in
theorem writeListS_any (base : Nat) (v : Value) (l : List Nat) (vs : Value) (ss : List ByteArray) (w : World) (hl : l.length ≤ 100000) (hn : ss.length ≤ 65535) (hsz : ∀ s ∈ ss, s.size ≤ 32) (hb : base ≤ w.heap.size) (hown : Own base w v l) (hseg : SSeg base w vs ss) :
    Calls Tryz.prog 148 #[v, vs, .func (.func 149) #[] #[]] w fun e w' => ∃ v', e = .returned v' ∧ Own base w' v' (l ++ (be 2 ss.length ++ namesb ss)) ∧ Kept base w w' := by
  have HSS : Hid (SSeg base w vs ss) := hseg
  have HSZ : Hid (∀ s ∈ ss, s.size ≤ 32) := hsz
  obtain ⟨ao, cap, rfl, h2, h4⟩ := hseg
  have hw : IntKind.u64.wrap (ss.length : Int) = ss.length := by rw [IntKind.wrap_u64]; omega
  clear hsz
  by_cases h0 : ss = []
  · subst h0
    clear h4 HSS HSZ
    simp only [List.length_nil] at *
    go_enter Tryz.func148, Tryz.ntmps148
    go_wp2_with fail
    refine (writeNumber_at base v l _ _ w (by omega) (by omega) (by omega) (by omega) hb hown).mono ?_
    rintro e w1 ⟨v1, rfl, ho1, hk1⟩
    go_wp2
    refine wp_loop_rounds 1 ?_
    rw [rounds_succ]
    go_wp2
    go_ret
    exact ⟨_, rfl, by simpa [namesb] using ho1, hk1⟩
  rcases h4 with h4 | ⟨b, off, rfl, hbB, hcell⟩
  · exact absurd h4 h0
  have HC : Hid (∀ (i : Nat) (s : ByteArray), ss[i]? = some s → w.cell? ⟨b, off + i, none⟩ = some (.string s)) := hcell
  have h0 : 0 < ss.length := List.length_pos_iff.2 h0
  clear hcell
  go_enter Tryz.func148, Tryz.ntmps148
  go_wp2_with fail
  refine (writeNumber_at base v l _ _ w (by omega) (by omega) (by omega) (by omega) hb hown).mono ?_
  rintro e w1 ⟨v1, rfl, ho1, hk1⟩
  generalize hnn : ss.length = n at *
  have HN : Hid (ss.length = n) := hnn
  have ho1 : Own base w1 v1 (l ++ be 2 n) := ho1
  have HO1 : Hid (Own base w1 v1 (l ++ be 2 n)) := ho1
  clear hnn ho1
  go_wp2
  go_loopw [0, 16] (fun v i wr => ∃ k : Nat, k ≤ n ∧ i = .int .i64 k ∧ Own base wr v ((l ++ be 2 n) ++ namesb (ss.take k)) ∧ Kept base w wr) (fun _ i _ => n - (intOf i).toNat)
  case atStart => exact ⟨0, Nat.zero_le _, rfl, by simpa [namesb] using HO1.out, hk1⟩
  case round =>
    obtain ⟨k, hk, rfl, hok, hkk⟩ := hrel
    have hzk := hkk.size
    by_cases hlt : k < n
    · obtain ⟨s, hs⟩ : ∃ s : ByteArray, ss[k]? = some s := ⟨_, List.getElem?_eq_getElem (by have := HN.out; omega)⟩
      have hc : wr.cell? ⟨b, off + k, none⟩ = some (.string s) := (World.cell?_of_block (hkk.block b (by omega) (.inl hbB))).trans (HC.out k s hs)
      have hs32 := HSZ.out s (List.mem_of_getElem? hs)
      have HS : Hid (ss[k]? = some s) := hs
      have HOK : Hid (Own base wr _ ((l ++ be 2 n) ++ namesb (ss.take k))) := hok
      have hlen : (namesb (ss.take k)).length ≤ 33 * k := by
        have := namesb_len (ss.take k) (fun t ht => HSZ.out t (List.mem_of_mem_take ht))
        rw [List.length_take] at this
        omega
      clear hs hok
      go_wp2_with fail
      refine (writeName_any base _ _ s wr hs32 (by simp only [List.length_append, be_length]; omega) (by omega) HOK.out).mono ?_
      rintro e w3 ⟨v3, rfl, ho3, hk3⟩
      have HO3 : Hid (Own base w3 v3 ((l ++ be 2 n) ++ namesb (ss.take (k + 1)))) := by
        show Own _ _ _ _
        rw [namesb_snoc ss k s HS.out, ← List.append_assoc]; exact ho3
      have hk3 := hkk.trans hk3
      clear ho3
      go_wp2
      go_roundw
      case rel => exact ⟨k + 1, by omega, by go_num, HO3.out, hk3⟩
      case measure => simp [intOf]; omega
    · go_wp2
      go_ret
      obtain rfl : k = n := by omega
      rw [List.take_of_length_le (by have := HN.out; omega)] at hok
      exact ⟨_, rfl, by rw [HN.out]; simpa using hok, hkk⟩

/-- Names that are none too long. -/
def fitsN (ss : List ByteArray) : Bool := ss.all fun s => decide (s.size ≤ 32)
theorem longName_any (s : ByteArray) (w : World) (hs : s.size ≤ 9223372036854775807) : Calls Tryz.prog 133 #[.string s] w fun e w' => e = .returned (.bool (decide (32 < s.size))) ∧ w' = w := by
  by_cases h : 32 < s.size
  all_goals
    go_enter Tryz.func133, Tryz.ntmps133
    go_wp2
    go_ret
    exact ⟨ret_bool (by simp [h]; omega), rfl⟩

theorem all_take_succ (ss : List ByteArray) (k : Nat) (s : ByteArray) (h : ss[k]? = some s) : fitsN (ss.take (k + 1)) = (fitsN (ss.take k) && decide (s.size ≤ 32)) := by
  unfold fitsN
  rw [List.take_add_one, h, List.all_append]; simp

set_option maxHeartbeats 1000000 in
set_option maxRecDepth 100000 in
theorem IndexFuncS_any (vs : Value) (ss : List ByteArray) (B : Nat) (w : World) (hseg : SSeg B w vs ss) (hsz : ∀ s ∈ ss, s.size ≤ 9223372036854775807) :
    Calls Tryz.prog 95 #[vs, .func (.func 133) #[] #[]] w fun e w' => ∃ i : Int, e = .returned (.int .i64 i) ∧ (decide (0 ≤ i) = !fitsN ss) ∧ w' = w := by
  have HSZ : Hid (∀ s ∈ ss, s.size ≤ 9223372036854775807) := hsz
  obtain ⟨ao, cap, rfl, h2, h4⟩ := hseg
  clear hsz
  by_cases h0 : ss = []
  · subst h0
    clear h4 HSZ
    simp only [List.length_nil] at *
    go_enter Tryz.func95, Tryz.ntmps95
    go_wp2
    refine wp_loop_rounds 1 ?_
    rw [rounds_succ]
    go_wp2
    go_ret
    exact ⟨_, rfl, by decide, rfl⟩
  rcases h4 with h4 | ⟨b, off, rfl, hbB, hcell⟩
  · exact absurd h4 h0
  have HC : Hid (∀ (i : Nat) (s : ByteArray), ss[i]? = some s → w.cell? ⟨b, off + i, none⟩ = some (.string s)) := hcell
  clear hcell h0
  generalize hnn : ss.length = n at *
  have HN : Hid (ss.length = n) := hnn
  clear hnn
  go_enter Tryz.func95, Tryz.ntmps95
  go_wp2
  go_loop [8] (fun i => ∃ k : Nat, k ≤ n ∧ i = .int .i64 k ∧ Hid (fitsN (ss.take k) = true)) (fun i => n - (intOf i).toNat)
  case atStart => exact ⟨0, Nat.zero_le _, rfl, rfl⟩
  case round =>
    obtain ⟨k, hk, rfl, HF⟩ := hrel
    by_cases hlt : k < n
    · obtain ⟨s, hs⟩ : ∃ s : ByteArray, ss[k]? = some s := ⟨_, List.getElem?_eq_getElem (by have := HN.out; omega)⟩
      have hc := HC.out k s hs
      have hss := HSZ.out s (List.mem_of_getElem? hs)
      have HS : Hid (ss[k]? = some s) := hs
      clear hs
      by_cases h32 : 32 < s.size
      · go_wp2_with fail
        refine (longName_any s w hss).mono ?_
        rw [decide_eq_true h32]
        rintro e w3 ⟨rfl, rfl⟩
        go_wp2
        go_ret
        refine ⟨_, rfl, ?_, rfl⟩
        have hf : fitsN ss = false := by
          unfold fitsN
          rw [List.all_eq_false]
          exact ⟨s, List.mem_of_getElem? HS.out, by simp; omega⟩
        rw [hf]; simp
      · go_wp2_with fail
        refine (longName_any s w hss).mono ?_
        rw [decide_eq_false h32]
        rintro e w3 ⟨rfl, rfl⟩
        go_wp2
        go_round
        case rel => exact ⟨k + 1, by omega, by go_num, by
          show fitsN _ = true
          rw [all_take_succ ss k s HS.out, HF.out]; simp; omega⟩
        case measure => simp [intOf]; omega
    · go_wp2
      go_ret
      refine ⟨_, rfl, ?_, rfl⟩
      have := HF.out
      rw [List.take_of_length_le (by have := HN.out; omega)] at this
      rw [this]; decide

set_option maxHeartbeats 1000000 in
set_option maxRecDepth 100000 in
theorem ContainsFuncS_any (vs : Value) (ss : List ByteArray) (B : Nat) (w : World) (hseg : SSeg B w vs ss) (hsz : ∀ s ∈ ss, s.size ≤ 9223372036854775807) :
    Calls Tryz.prog 132 #[vs, .func (.func 133) #[] #[]] w fun e w' => e = .returned (.bool (!fitsN ss)) ∧ w' = w := by
  have HI := IndexFuncS_any vs ss B w hseg hsz
  clear hseg hsz
  go_enter Tryz.func132, Tryz.ntmps132
  go_wp2_with fail
  refine HI.mono ?_
  rintro e w1 ⟨i, rfl, hi, rfl⟩
  have HH : Hid (decide (0 ≤ i) = !fitsN ss) := hi
  clear hi HI
  go_wp2
  go_ret
  exact ⟨ret_bool HH.out, rfl⟩

theorem BoxT.cells3 {t : TypeId} {w : World} {k : Nat} {c0 c1 c2 : Value} (h : BoxT t w k #[c0, c1, c2]) :
    w.cell? ⟨k, 0, none⟩ = some c0 ∧ w.cell? ⟨k, 1, none⟩ = some c1 ∧ w.cell? ⟨k, 2, none⟩ = some c2 := by
  unfold BoxT at h
  simp [World.cell?, h]

/-- A manifest's bytes. -/
def manb (n ep : Int) (ss : List ByteArray) : List Nat := be 8 n.toNat ++ (be 8 ep.toNat ++ (be 2 ss.length ++ namesb ss))
def mfits (ss : List ByteArray) : Bool := decide (ss.length ≤ 65535) && fitsN ss

set_option maxHeartbeats 1000000 in
set_option maxRecDepth 100000 in
theorem writeManifest_any (base : Nat) (n ep : Int) (vs : Value) (ss : List ByteArray) (w : World) (h1 : 0 ≤ n) (h2 : 0 ≤ ep) (hn : ss.length ≤ 65535) (hsz : ∀ s ∈ ss, s.size ≤ 32) (hb : base ≤ w.heap.size) (hseg : SSeg base w vs ss) :
    Calls Tryz.prog 134 #[.slice none 0 0, .agg #[.int .u64 n, .int .u64 ep, vs]] w fun e w' => ∃ v', e = .returned v' ∧ Own base w' v' (manb n ep ss) ∧ Kept base w w' := by
  have HSS : Hid (SSeg base w vs ss) := hseg
  have HSZ : Hid (∀ s ∈ ss, s.size ≤ 32) := hsz
  obtain ⟨ao, cap, rfl, _, _⟩ := hseg
  clear hsz
  have bx := BoxT.new 110 w #[.int .u64 n, .int .u64 ep, .slice ao ss.length cap]
  have hk := (Kept.refl base w).alloc (.cells #[.int .u64 n, .int .u64 ep, .slice ao ss.length cap] 110)
  go_enter Tryz.func134, Tryz.ntmps134
  go_wp2_with fail
  refine (writeNumber_at base _ [] _ n _ (by omega) (by omega) h1 (by simp) (by simp; omega) (Own.nil _ _)).mono ?_
  rintro e w1 ⟨v1, rfl, ho1, hk1⟩
  have bx := bx.kept hk1 (by decide)
  have hk := hk.trans hk1
  have hz := hk.size
  obtain ⟨c0, c1, c2⟩ := bx.cells3
  clear hk1
  go_wp2_with fail
  refine (writeNumber_at base _ _ _ ep _ (by omega) (by omega) h2 (by simp [be_length]) (by omega) ho1).mono ?_
  rintro e w2 ⟨v2, rfl, ho2, hk2⟩
  have bx := bx.kept hk2 (by decide)
  have hk := hk.trans hk2
  clear hk2 c0 c1 c2 ho1 hz
  have hz := hk.size
  obtain ⟨c0, c1, c2⟩ := bx.cells3
  go_wp2_with fail
  refine (writeListS_any base _ _ _ ss w2 (by simp [be_length]) hn HSZ.out (by omega) ho2 (HSS.out.kept hk hb)).mono ?_
  rintro e w3 ⟨v3, rfl, ho3, hk3⟩
  have hk := hk.trans hk3
  clear c0 c1 c2 ho2 hk3
  go_wp2
  go_ret
  exact ⟨_, rfl, by simpa [manb] using ho3, hk⟩

/-- What a writer tells: bytes, and a number. -/
def WPost (w : World) (er : Int) (l : List Nat) (e : Ending) (w' : World) : Prop := ∃ v', e = .returned (.tuple #[v', .int .i64 er]) ∧ Own w.heap.size w' v' l ∧ Below w.heap.size w w'
theorem WPost.mk {w w' : World} {er : Int} {l : List Nat} {v' : Value} (ho : Own w.heap.size w' v' l) (hb : Below w.heap.size w w') : WPost w er l (.returned (.tuple #[v', .int .i64 er])) w' := ⟨v', rfl, ho, hb⟩
def mEr (ss : List ByteArray) : Int := if mfits ss then 0 else 12
def mOut (n ep : Int) (ss : List ByteArray) : List Nat := if mfits ss then manb n ep ss else []

set_option maxHeartbeats 1000000 in
set_option maxRecDepth 100000 in
theorem Manifest_any (n ep : Int) (vs : Value) (ss : List ByteArray) (w : World) (h1 : 0 ≤ n) (h2 : 0 ≤ ep) (hsz : ∀ s ∈ ss, s.size ≤ 9223372036854775807) (hseg : SSeg w.heap.size w vs ss) :
    Calls Tryz.prog 101 #[.agg #[.int .u64 n, .int .u64 ep, vs]] w (WPost w (mEr ss) (mOut n ep ss)) := by
  have HSS : Hid (SSeg w.heap.size w vs ss) := hseg
  obtain ⟨ao, cap, rfl, hlm, _⟩ := hseg
  have bx := BoxT.new 110 w #[.int .u64 n, .int .u64 ep, .slice ao ss.length cap]
  have hb1 : Below w.heap.size w (w.alloc (.cells #[.int .u64 n, .int .u64 ep, .slice ao ss.length cap] 110)) := (Below.refl _ _).alloc (Nat.le_refl _) _
  have hs1 := HSS.out.below hb1
  have HF := ContainsFuncS_any _ ss _ _ hs1 hsz
  have HS1 : Hid (SSeg w.heap.size (w.alloc (.cells #[.int .u64 n, .int .u64 ep, .slice ao ss.length cap] 110)) (.slice ao ss.length cap) ss) := hs1
  clear hs1
  by_cases hlen : ss.length ≤ 65535
  · rcases Bool.eq_false_or_eq_true (fitsN ss) with hf | hf
    · have hm : mfits ss = true := by unfold mfits; rw [hf, decide_eq_true hlen]; rfl
      have e1 : mEr ss = 0 := by unfold mEr; rw [hm]; rfl
      have e2 : mOut n ep ss = manb n ep ss := by unfold mOut; rw [hm]; rfl
      have hsz32 : ∀ s ∈ ss, s.size ≤ 32 := fun s hs => by have := List.all_eq_true.1 hf s hs; simpa using this
      have HZ : Hid (∀ s ∈ ss, s.size ≤ 32) := hsz32
      rw [e1, e2]
      rw [hf] at HF
      clear hsz hsz32 hm e1 e2 hf
      go_enter Tryz.func101, Tryz.ntmps101
      go_wp2_with fail
      refine HF.mono ?_
      rintro e w1 ⟨rfl, rfl⟩
      clear HF
      go_wp2_with fail
      refine (writeManifest_any w.heap.size n ep _ ss _ h1 h2 hlen HZ.out (by simp) HS1.out).mono ?_
      rintro e w2 ⟨v2, rfl, ho2, hk2⟩
      have hbel := hb1.trans (hk2.below (by simp))
      go_wp2
      go_ret2
      exact WPost.mk ho2 hbel
    · have hm : mfits ss = false := by unfold mfits; rw [hf]; simp
      have e1 : mEr ss = 12 := by unfold mEr; rw [hm]; rfl
      have e2 : mOut n ep ss = [] := by unfold mOut; rw [hm]; rfl
      rw [e1, e2]
      rw [hf] at HF
      clear hsz hm e1 e2 hf
      go_enter Tryz.func101, Tryz.ntmps101
      go_wp2_with fail
      refine HF.mono ?_
      rintro e w1 ⟨rfl, rfl⟩
      clear HF
      go_wp2
      go_ret2
      exact WPost.mk (Own.nil _ _) hb1
  · have hm : mfits ss = false := by unfold mfits; rw [decide_eq_false hlen]; simp
    have e1 : mEr ss = 12 := by unfold mEr; rw [hm]; rfl
    have e2 : mOut n ep ss = [] := by unfold mOut; rw [hm]; rfl
    rw [e1, e2]
    clear hsz hm e1 e2 HF
    go_enter Tryz.func101, Tryz.ntmps101
    go_wp2
    go_ret2
    exact WPost.mk (Own.nil _ _) hb1
end Go.Proofs.YtbfhcbihgleddaaGreatDoor
/-
  Walks over package codec's writers of parts of snapshots.
-/
namespace Go.Proofs.YtbfhcbihgleddaaGreatDoor
open Go.RowKit

/-- v is a slice of just the things xs, each of sz cells, which lie below block B. -/
def LSeg {α : Type} (sz : Nat) (cs : α → List Value) (B : Nat) (w : World) (v : Value) (xs : List α) : Prop :=
  ∃ ao cap, v = .slice ao xs.length cap ∧ xs.length ≤ 140737488355328 ∧ (xs = [] ∨ ∃ b off, ao = some ⟨b, off, none⟩ ∧ b < B ∧ ∀ (i : Nat) (x : α), xs[i]? = some x → ∀ (j : Nat) (u : Value), (cs x)[j]? = some u → w.cell? ⟨b, off + i * sz + j, none⟩ = some u)
section
variable {α : Type} {sz : Nat} {cs : α → List Value} {B : Nat} {w w' : World} {v : Value} {xs : List α}
theorem LSeg.kept (h : LSeg sz cs B w v xs) (hk : Kept B w w') (hB : B ≤ w.heap.size) : LSeg sz cs B w' v xs := by
  obtain ⟨ao, cap, h1, h2, h4⟩ := h
  refine ⟨ao, cap, h1, h2, ?_⟩
  rcases h4 with h4 | ⟨b, off, h5, h6, h7⟩
  · exact .inl h4
  · exact .inr ⟨b, off, h5, h6, fun i x hi j u hu => (World.cell?_of_block (hk.block b (by omega) (.inl h6))).trans (h7 i x hi j u hu)⟩
theorem LSeg.mono {B' : Nat} (h : LSeg sz cs B w v xs) (hB : B ≤ B') : LSeg sz cs B' w v xs := by
  obtain ⟨ao, cap, h1, h2, h4⟩ := h
  refine ⟨ao, cap, h1, h2, ?_⟩
  rcases h4 with h4 | ⟨b, off, h5, h6, h7⟩
  · exact .inl h4
  · exact .inr ⟨b, off, h5, by omega, h7⟩
theorem LSeg.below (h : LSeg sz cs B w v xs) (hb : Below B w w') : LSeg sz cs B w' v xs := by
  obtain ⟨ao, cap, h1, h2, h4⟩ := h
  refine ⟨ao, cap, h1, h2, ?_⟩
  rcases h4 with h4 | ⟨b, off, h5, h6, h7⟩
  · exact .inl h4
  · exact .inr ⟨b, off, h5, h6, fun i x hi j u hu => (hb.cell (p := ⟨b, off + i * sz + j, none⟩) h6).trans (h7 i x hi j u hu)⟩
end

/-- A pane. -/
structure Pn where
  ke : Int
  fr : Int
  to : Int
  ac : Int
def Pn.cs (p : Pn) : List Value := [.int .i64 p.ke, .int .i64 p.fr, .int .i64 p.to, .int .i64 p.ac]
def pnb (p : Pn) : List Nat := sbe p.ke ++ (sbe p.fr ++ (sbe p.to ++ sbe p.ac))
/-- A captured frame. -/
structure Ot where
  ch : Int
  f : Frm
def Ot.cs (o : Ot) : List Value := [.int .i64 o.ch, .int .i64 o.f.kd, .int .i64 o.f.ke, .int .i64 o.f.ti, .int .i64 o.f.va, .int .i64 o.f.ma, .int .u64 o.f.n, .bool o.f.ov]
def Frm.fits (f : Frm) : Bool := YtbfhcbihgleddaaGreatDoor.fits f.kd f.ke f.ti f.va f.ma f.n f.ov
def Frm.b (f : Frm) : List Nat := frb f.kd f.ke f.ti f.va f.ma f.n f.ov
def Ot.fits (o : Ot) : Bool := decide (0 ≤ o.ch ∧ o.ch ≤ 65535) && o.f.fits
def otb (o : Ot) : List Nat := be 2 o.ch.toNat ++ o.f.b

theorem sbe_len (n : Int) : (sbe n).length = 8 := be_length _ _
theorem pnb_len (p : Pn) : (pnb p).length = 32 := by simp [pnb, sbe_len]
theorem otb_len (o : Ot) : (otb o).length ≤ 27 := by
  have := frb_len o.f.kd o.f.ke o.f.ti o.f.va o.f.ma o.f.n o.f.ov
  simp only [otb, List.length_append, be_length, Frm.b]; omega

set_option maxHeartbeats 1000000 in
set_option maxRecDepth 100000 in
theorem writePane_any (base : Nat) (v : Value) (l : List Nat) (p : Pn) (w : World) (hl : l.length ≤ 1000000000) (hb : base ≤ w.heap.size) (hown : Own base w v l) :
    Calls Tryz.prog 129 #[v, .agg #[.int .i64 p.ke, .int .i64 p.fr, .int .i64 p.to, .int .i64 p.ac]] w fun e w' => ∃ v', e = .returned v' ∧ Own base w' v' (l ++ pnb p) ∧ Kept base w w' := by
  obtain ⟨ke, fr, to, ac⟩ := p
  simp only
  have bx := BoxT.new 145 w #[.int .i64 ke, .int .i64 fr, .int .i64 to, .int .i64 ac]
  have hk := (Kept.refl base w).alloc (.cells #[.int .i64 ke, .int .i64 fr, .int .i64 to, .int .i64 ac] 145)
  go_enter Tryz.func129, Tryz.ntmps129
  go_wp2_with fail
  refine (writeSigned_any base v l ke _ (by omega) (by simp; omega) (hown.alloc _)).mono ?_
  rintro e w1 ⟨v1, rfl, ho1, hk1⟩
  have bx := bx.kept hk1 (by decide)
  have hk := hk.trans hk1
  have hz := hk.size
  obtain ⟨c0, c1, c2, c3⟩ := bx.cells4
  clear hk1
  go_wp2_with fail
  refine (writeSigned_any base v1 _ fr _ (by simp [sbe_len]; omega) (by omega) ho1).mono ?_
  rintro e w2 ⟨v2, rfl, ho2, hk2⟩
  have bx := bx.kept hk2 (by decide)
  have hk := hk.trans hk2
  clear hk2 c0 c1 c2 c3 ho1 hz
  have hz := hk.size
  obtain ⟨c0, c1, c2, c3⟩ := bx.cells4
  go_wp2_with fail
  refine (writeSigned_any base v2 _ to _ (by simp [sbe_len]; omega) (by omega) ho2).mono ?_
  rintro e w3 ⟨v3, rfl, ho3, hk3⟩
  have bx := bx.kept hk3 (by decide)
  have hk := hk.trans hk3
  clear hk3 c0 c1 c2 c3 ho2 hz
  have hz := hk.size
  obtain ⟨c0, c1, c2, c3⟩ := bx.cells4
  go_wp2_with fail
  refine (writeSigned_any base v3 _ ac _ (by simp [sbe_len]; omega) (by omega) ho3).mono ?_
  rintro e w4 ⟨v4, rfl, ho4, hk4⟩
  have hk := hk.trans hk4
  clear c0 c1 c2 c3 hk4
  go_wp2
  go_ret
  exact ⟨_, rfl, by simpa [pnb] using ho4, hk⟩

theorem BoxT.cells8 {t : TypeId} {w : World} {k : Nat} {c0 c1 c2 c3 c4 c5 c6 c7 : Value} (h : BoxT t w k #[c0, c1, c2, c3, c4, c5, c6, c7]) :
    w.cell? ⟨k, 0, none⟩ = some c0 ∧ w.cell? ⟨k, 1, none⟩ = some c1 ∧ w.cell? ⟨k, 2, none⟩ = some c2 ∧ w.cell? ⟨k, 3, none⟩ = some c3 ∧ w.cell? ⟨k, 4, none⟩ = some c4 ∧ w.cell? ⟨k, 5, none⟩ = some c5 ∧ w.cell? ⟨k, 6, none⟩ = some c6 ∧ w.cell? ⟨k, 7, none⟩ = some c7 := by
  unfold BoxT at h
  simp [World.cell?, h]

set_option maxHeartbeats 1000000 in
set_option maxRecDepth 100000 in
theorem writeOut_any (base : Nat) (v : Value) (l : List Nat) (ch kd ke ti va ma n : Int) (ov : Bool) (w : World) (h0 : 0 ≤ ch) (h1 : ch ≤ 65535) (hkd : Hid (kd = 1 ∨ kd = 2 ∨ kd = 3)) (hn : 0 ≤ n) (hl : l.length ≤ 100000000) (hb : base ≤ w.heap.size) (hown : Own base w v l) :
    Calls Tryz.prog 131 #[v, .agg #[.int .i64 ch, .int .i64 kd, .int .i64 ke, .int .i64 ti, .int .i64 va, .int .i64 ma, .int .u64 n, .bool ov]] w fun e w' => ∃ v', e = .returned v' ∧ Own base w' v' (l ++ (be 2 ch.toNat ++ frb kd ke ti va ma n ov)) ∧ Kept base w w' := by
  have bx := BoxT.new 151 w #[.int .i64 ch, .int .i64 kd, .int .i64 ke, .int .i64 ti, .int .i64 va, .int .i64 ma, .int .u64 n, .bool ov]
  have hk := (Kept.refl base w).alloc (.cells #[.int .i64 ch, .int .i64 kd, .int .i64 ke, .int .i64 ti, .int .i64 va, .int .i64 ma, .int .u64 n, .bool ov] 151)
  have hw : IntKind.u64.wrap ch = ch := by rw [IntKind.wrap_u64]; omega
  go_enter Tryz.func131, Tryz.ntmps131
  go_wp2_with fail
  refine (writeNumber_at base v l _ ch _ (by omega) (by omega) h0 (by omega) (by simp; omega) (hown.alloc _)).mono ?_
  rintro e w1 ⟨v1, rfl, ho1, hk1⟩
  have bx := bx.kept hk1 (by decide)
  have hk := hk.trans hk1
  have hz := hk.size
  obtain ⟨c0, c1, c2, c3, c4, c5, c6, c7⟩ := bx.cells8
  clear hk1
  go_wp2_with fail
  refine (writeFrame_any base v1 _ kd ke ti va ma n ov _ hkd.out hn (by simp [be_length]; omega) (by omega) ho1).mono ?_
  rintro e w2 ⟨v2, rfl, ho2, hk2⟩
  have hk := hk.trans hk2
  clear c0 c1 c2 c3 c4 c5 c6 c7 hk2
  go_wp2
  go_ret
  exact ⟨_, rfl, by simpa using ho2, hk⟩
end Go.Proofs.YtbfhcbihgleddaaGreatDoor
/-
  Walks over package codec's writers of parts of snapshots: the lists.
-/
namespace Go.Proofs.YtbfhcbihgleddaaGreatDoor
open Go.RowKit

theorem flat_len {α : Type} (enc : α → List Nat) (m : Nat) (h : ∀ x, (enc x).length ≤ m) (xs : List α) : (xs.flatMap enc).length ≤ m * xs.length := by
  induction xs with
  | nil => simp
  | cons x xs ih =>
    have := h x
    simp only [List.flatMap_cons, List.length_append, List.length_cons, Nat.mul_add, Nat.mul_one]; omega
theorem flat_snoc {α : Type} (enc : α → List Nat) (xs : List α) (k : Nat) (x : α) (h : xs[k]? = some x) : (xs.take (k + 1)).flatMap enc = (xs.take k).flatMap enc ++ enc x := by
  rw [List.take_add_one, h, List.flatMap_append]; simp
def ics (n : Int) : List Value := [.int .i64 n]

set_option maxHeartbeats 2000000 in
set_option maxRecDepth 100000 in
theorem writeListI_any (base : Nat) (v : Value) (l : List Nat) (vs : Value) (xs : List (Int)) (w : World) (hl : l.length ≤ 10000000) (hn : xs.length ≤ 65535) (hb : base ≤ w.heap.size) (hown : Own base w v l) (hseg : LSeg 1 ics base w vs xs) :
    Calls Tryz.prog 127 #[v, vs, .func (.func 126) #[] #[]] w fun e w' => ∃ v', e = .returned v' ∧ Own base w' v' (l ++ (be 2 xs.length ++ xs.flatMap sbe)) ∧ Kept base w w' := by
  obtain ⟨ao, cap, rfl, h2, h4⟩ := hseg
  have hw : IntKind.u64.wrap (xs.length : Int) = xs.length := by rw [IntKind.wrap_u64]; omega
  by_cases h0 : xs = []
  · subst h0
    clear h4
    simp only [List.length_nil] at *
    go_enter Tryz.func127, Tryz.ntmps127
    go_wp2_with fail
    refine (writeNumber_at base v l _ _ w (by omega) (by omega) (by omega) (by omega) hb hown).mono ?_
    rintro e w1 ⟨v1, rfl, ho1, hk1⟩
    go_wp2
    refine wp_loop_rounds 1 ?_
    rw [rounds_succ]
    go_wp2
    go_ret
    exact ⟨_, rfl, by simpa using ho1, hk1⟩
  rcases h4 with h4 | ⟨b, off, rfl, hbB, hcell⟩
  · exact absurd h4 h0
  have HC : Hid (∀ (i : Nat) (x : Int), xs[i]? = some x → ∀ (j : Nat) (u : Value), (ics x)[j]? = some u → w.cell? ⟨b, off + i * 1 + j, none⟩ = some u) := hcell
  clear hcell h0
  go_enter Tryz.func127, Tryz.ntmps127
  go_wp2_with fail
  refine (writeNumber_at base v l _ _ w (by omega) (by omega) (by omega) (by omega) hb hown).mono ?_
  rintro e w1 ⟨v1, rfl, ho1, hk1⟩
  generalize hnn : xs.length = n at *
  have HN : Hid (xs.length = n) := hnn
  have ho1 : Own base w1 v1 (l ++ be 2 n) := ho1
  have HO1 : Hid (Own base w1 v1 (l ++ be 2 n)) := ho1
  clear hnn ho1
  go_wp2
  go_loopw [0, 16] (fun v i wr => ∃ k : Nat, k ≤ n ∧ i = .int .i64 k ∧ Own base wr v ((l ++ be 2 n) ++ (xs.take k).flatMap sbe) ∧ Kept base w wr) (fun _ i _ => n - (intOf i).toNat)
  case atStart => exact ⟨0, Nat.zero_le _, rfl, by simpa using HO1.out, hk1⟩
  case round =>
    obtain ⟨k, hk, rfl, hok, hkk⟩ := hrel
    have hzk := hkk.size
    by_cases hlt : k < n
    · obtain ⟨x, hx⟩ : ∃ x : Int, xs[k]? = some x := ⟨_, List.getElem?_eq_getElem (by have := HN.out; omega)⟩
      have hcw : ∀ (j : Nat) (u : Value), (ics x)[j]? = some u → wr.cell? ⟨b, off + k * 1 + j, none⟩ = some u := fun j u hu => (World.cell?_of_block (hkk.block b (by omega) (.inl hbB))).trans (HC.out k x hx j u hu)
      have hc : wr.cell? ⟨b, off + k, none⟩ = some (.int .i64 x) := by have := hcw 0 _ rfl; simpa using this
      have HX : Hid (xs[k]? = some x) := hx
      have HOK : Hid (Own base wr _ ((l ++ be 2 n) ++ (xs.take k).flatMap sbe)) := hok
      have hlen : ((xs.take k).flatMap sbe).length ≤ 8 * k := by
        have := flat_len sbe 8 (fun n => Nat.le_of_eq (sbe_len n)) (xs.take k)
        rw [List.length_take] at this
        exact Nat.le_trans this (Nat.mul_le_mul_left _ (Nat.min_le_left _ _))
      clear hx hok hcw
      go_wp2_with fail
      refine (writeSigned_any base _ _ x wr (by simp only [List.length_append, be_length]; omega) (by omega) HOK.out).mono ?_
      rintro e w3 ⟨v3, rfl, ho3, hk3⟩
      have HO3 : Hid (Own base w3 v3 ((l ++ be 2 n) ++ (xs.take (k + 1)).flatMap sbe)) := by
        show Own _ _ _ _
        rw [flat_snoc sbe xs k x HX.out, ← List.append_assoc]; exact ho3
      have hk3 := hkk.trans hk3
      clear ho3
      go_wp2
      go_roundw
      case rel => exact ⟨k + 1, by omega, by go_num, HO3.out, hk3⟩
      case measure => simp [intOf]; omega
    · go_wp2
      go_ret
      obtain rfl : k = n := by omega
      rw [List.take_of_length_le (by have := HN.out; omega)] at hok
      exact ⟨_, rfl, by rw [HN.out]; simpa using hok, hkk⟩

set_option maxHeartbeats 2000000 in
set_option maxRecDepth 100000 in
theorem writeListP_any (base : Nat) (v : Value) (l : List Nat) (vs : Value) (xs : List (Pn)) (w : World) (hl : l.length ≤ 10000000) (hn : xs.length ≤ 65535) (hb : base ≤ w.heap.size) (hown : Own base w v l) (hseg : LSeg 4 Pn.cs base w vs xs) :
    Calls Tryz.prog 128 #[v, vs, .func (.func 129) #[] #[]] w fun e w' => ∃ v', e = .returned v' ∧ Own base w' v' (l ++ (be 2 xs.length ++ xs.flatMap pnb)) ∧ Kept base w w' := by
  obtain ⟨ao, cap, rfl, h2, h4⟩ := hseg
  have hw : IntKind.u64.wrap (xs.length : Int) = xs.length := by rw [IntKind.wrap_u64]; omega
  by_cases h0 : xs = []
  · subst h0
    clear h4
    simp only [List.length_nil] at *
    go_enter Tryz.func128, Tryz.ntmps128
    go_wp2_with fail
    refine (writeNumber_at base v l _ _ w (by omega) (by omega) (by omega) (by omega) hb hown).mono ?_
    rintro e w1 ⟨v1, rfl, ho1, hk1⟩
    go_wp2
    refine wp_loop_rounds 1 ?_
    rw [rounds_succ]
    go_wp2
    go_ret
    exact ⟨_, rfl, by simpa using ho1, hk1⟩
  rcases h4 with h4 | ⟨b, off, rfl, hbB, hcell⟩
  · exact absurd h4 h0
  have HC : Hid (∀ (i : Nat) (x : Pn), xs[i]? = some x → ∀ (j : Nat) (u : Value), (Pn.cs x)[j]? = some u → w.cell? ⟨b, off + i * 4 + j, none⟩ = some u) := hcell
  clear hcell h0
  go_enter Tryz.func128, Tryz.ntmps128
  go_wp2_with fail
  refine (writeNumber_at base v l _ _ w (by omega) (by omega) (by omega) (by omega) hb hown).mono ?_
  rintro e w1 ⟨v1, rfl, ho1, hk1⟩
  generalize hnn : xs.length = n at *
  have HN : Hid (xs.length = n) := hnn
  have ho1 : Own base w1 v1 (l ++ be 2 n) := ho1
  have HO1 : Hid (Own base w1 v1 (l ++ be 2 n)) := ho1
  clear hnn ho1
  go_wp2
  go_loopw [0, 16] (fun v i wr => ∃ k : Nat, k ≤ n ∧ i = .int .i64 k ∧ Own base wr v ((l ++ be 2 n) ++ (xs.take k).flatMap pnb) ∧ Kept base w wr) (fun _ i _ => n - (intOf i).toNat)
  case atStart => exact ⟨0, Nat.zero_le _, rfl, by simpa using HO1.out, hk1⟩
  case round =>
    obtain ⟨k, hk, rfl, hok, hkk⟩ := hrel
    have hzk := hkk.size
    by_cases hlt : k < n
    · obtain ⟨x, hx⟩ : ∃ x : Pn, xs[k]? = some x := ⟨_, List.getElem?_eq_getElem (by have := HN.out; omega)⟩
      have hcw : ∀ (j : Nat) (u : Value), (Pn.cs x)[j]? = some u → wr.cell? ⟨b, off + k * 4 + j, none⟩ = some u := fun j u hu => (World.cell?_of_block (hkk.block b (by omega) (.inl hbB))).trans (HC.out k x hx j u hu)
      have hc0 : wr.cell? ⟨b, off + k * 4, none⟩ = some (.int .i64 x.ke) := hcw 0 _ rfl
      have hc1 : wr.cell? ⟨b, off + k * 4 + 1, none⟩ = some (.int .i64 x.fr) := hcw 1 _ rfl
      have hc2 : wr.cell? ⟨b, off + k * 4 + 2, none⟩ = some (.int .i64 x.to) := hcw 2 _ rfl
      have hc3 : wr.cell? ⟨b, off + k * 4 + 3, none⟩ = some (.int .i64 x.ac) := hcw 3 _ rfl
      have HX : Hid (xs[k]? = some x) := hx
      have HOK : Hid (Own base wr _ ((l ++ be 2 n) ++ (xs.take k).flatMap pnb)) := hok
      have hlen : ((xs.take k).flatMap pnb).length ≤ 32 * k := by
        have := flat_len pnb 32 (fun p => Nat.le_of_eq (pnb_len p)) (xs.take k)
        rw [List.length_take] at this
        exact Nat.le_trans this (Nat.mul_le_mul_left _ (Nat.min_le_left _ _))
      clear hx hok hcw
      go_wp2_with fail
      refine (writePane_any base _ _ x _ (by simp only [List.length_append, be_length]; omega) (by simp; omega) (HOK.out.alloc _)).mono ?_
      rintro e w3 ⟨v3, rfl, ho3, hk3⟩
      have HO3 : Hid (Own base w3 v3 ((l ++ be 2 n) ++ (xs.take (k + 1)).flatMap pnb)) := by
        show Own _ _ _ _
        rw [flat_snoc pnb xs k x HX.out, ← List.append_assoc]; exact ho3
      have hk3 := (hkk.alloc _).trans hk3
      clear ho3
      go_wp2
      go_roundw
      case rel => exact ⟨k + 1, by omega, by go_num, HO3.out, hk3⟩
      case measure => simp [intOf]; omega
    · go_wp2
      go_ret
      obtain rfl : k = n := by omega
      rw [List.take_of_length_le (by have := HN.out; omega)] at hok
      exact ⟨_, rfl, by rw [HN.out]; simpa using hok, hkk⟩

set_option maxHeartbeats 2000000 in
set_option maxRecDepth 100000 in
theorem writeListO_any (base : Nat) (v : Value) (l : List Nat) (vs : Value) (xs : List (Ot)) (w : World) (hl : l.length ≤ 10000000) (hn : xs.length ≤ 65535) (hf : ∀ o ∈ xs, o.fits = true) (hu : ∀ o ∈ xs, 0 ≤ o.f.n) (hb : base ≤ w.heap.size) (hown : Own base w v l) (hseg : LSeg 8 Ot.cs base w vs xs) :
    Calls Tryz.prog 130 #[v, vs, .func (.func 131) #[] #[]] w fun e w' => ∃ v', e = .returned v' ∧ Own base w' v' (l ++ (be 2 xs.length ++ xs.flatMap otb)) ∧ Kept base w w' := by
  have HF : Hid (∀ o ∈ xs, o.fits = true) := hf
  have HU : Hid (∀ o ∈ xs, 0 ≤ o.f.n) := hu
  clear hf hu
  obtain ⟨ao, cap, rfl, h2, h4⟩ := hseg
  have hw : IntKind.u64.wrap (xs.length : Int) = xs.length := by rw [IntKind.wrap_u64]; omega
  by_cases h0 : xs = []
  · subst h0
    clear h4 HF HU
    simp only [List.length_nil] at *
    go_enter Tryz.func130, Tryz.ntmps130
    go_wp2_with fail
    refine (writeNumber_at base v l _ _ w (by omega) (by omega) (by omega) (by omega) hb hown).mono ?_
    rintro e w1 ⟨v1, rfl, ho1, hk1⟩
    go_wp2
    refine wp_loop_rounds 1 ?_
    rw [rounds_succ]
    go_wp2
    go_ret
    exact ⟨_, rfl, by simpa using ho1, hk1⟩
  rcases h4 with h4 | ⟨b, off, rfl, hbB, hcell⟩
  · exact absurd h4 h0
  have HC : Hid (∀ (i : Nat) (x : Ot), xs[i]? = some x → ∀ (j : Nat) (u : Value), (Ot.cs x)[j]? = some u → w.cell? ⟨b, off + i * 8 + j, none⟩ = some u) := hcell
  clear hcell h0
  go_enter Tryz.func130, Tryz.ntmps130
  go_wp2_with fail
  refine (writeNumber_at base v l _ _ w (by omega) (by omega) (by omega) (by omega) hb hown).mono ?_
  rintro e w1 ⟨v1, rfl, ho1, hk1⟩
  generalize hnn : xs.length = n at *
  have HN : Hid (xs.length = n) := hnn
  have ho1 : Own base w1 v1 (l ++ be 2 n) := ho1
  have HO1 : Hid (Own base w1 v1 (l ++ be 2 n)) := ho1
  clear hnn ho1
  go_wp2
  go_loopw [0, 16] (fun v i wr => ∃ k : Nat, k ≤ n ∧ i = .int .i64 k ∧ Own base wr v ((l ++ be 2 n) ++ (xs.take k).flatMap otb) ∧ Kept base w wr) (fun _ i _ => n - (intOf i).toNat)
  case atStart => exact ⟨0, Nat.zero_le _, rfl, by simpa using HO1.out, hk1⟩
  case round =>
    obtain ⟨k, hk, rfl, hok, hkk⟩ := hrel
    have hzk := hkk.size
    by_cases hlt : k < n
    · obtain ⟨x, hx⟩ : ∃ x : Ot, xs[k]? = some x := ⟨_, List.getElem?_eq_getElem (by have := HN.out; omega)⟩
      have hcw : ∀ (j : Nat) (u : Value), (Ot.cs x)[j]? = some u → wr.cell? ⟨b, off + k * 8 + j, none⟩ = some u := fun j u hu => (World.cell?_of_block (hkk.block b (by omega) (.inl hbB))).trans (HC.out k x hx j u hu)
      have hc0 : wr.cell? ⟨b, off + k * 8, none⟩ = some (.int .i64 x.ch) := hcw 0 _ rfl
      have hc1 : wr.cell? ⟨b, off + k * 8 + 1, none⟩ = some (.int .i64 x.f.kd) := hcw 1 _ rfl
      have hc2 : wr.cell? ⟨b, off + k * 8 + 2, none⟩ = some (.int .i64 x.f.ke) := hcw 2 _ rfl
      have hc3 : wr.cell? ⟨b, off + k * 8 + 3, none⟩ = some (.int .i64 x.f.ti) := hcw 3 _ rfl
      have hc4 : wr.cell? ⟨b, off + k * 8 + 4, none⟩ = some (.int .i64 x.f.va) := hcw 4 _ rfl
      have hc5 : wr.cell? ⟨b, off + k * 8 + 5, none⟩ = some (.int .i64 x.f.ma) := hcw 5 _ rfl
      have hc6 : wr.cell? ⟨b, off + k * 8 + 6, none⟩ = some (.int .u64 x.f.n) := hcw 6 _ rfl
      have hc7 : wr.cell? ⟨b, off + k * 8 + 7, none⟩ = some (.bool x.f.ov) := hcw 7 _ rfl
      have hof := HF.out x (List.mem_of_getElem? hx)
      unfold Ot.fits at hof
      rw [Bool.and_eq_true] at hof
      have hch := of_decide_eq_true hof.1
      have HK : Hid (x.f.kd = 1 ∨ x.f.kd = 2 ∨ x.f.kd = 3) := fits_kind hof.2
      have hun := HU.out x (List.mem_of_getElem? hx)
      obtain ⟨hch0, hch1⟩ := hch
      clear hof
      have HX : Hid (xs[k]? = some x) := hx
      have HOK : Hid (Own base wr _ ((l ++ be 2 n) ++ (xs.take k).flatMap otb)) := hok
      have hlen : ((xs.take k).flatMap otb).length ≤ 27 * k := by
        have := flat_len otb 27 otb_len (xs.take k)
        rw [List.length_take] at this
        exact Nat.le_trans this (Nat.mul_le_mul_left _ (Nat.min_le_left _ _))
      clear hx hok hcw
      go_wp2_with fail
      refine (writeOut_any base _ _ x.ch x.f.kd x.f.ke x.f.ti x.f.va x.f.ma x.f.n x.f.ov _ hch0 hch1 HK hun (by simp only [List.length_append, be_length]; omega) (by simp; omega) (HOK.out.alloc _)).mono ?_
      rintro e w3 ⟨v3, rfl, ho3, hk3⟩
      have HO3 : Hid (Own base w3 v3 ((l ++ be 2 n) ++ (xs.take (k + 1)).flatMap otb)) := by
        show Own _ _ _ _
        rw [flat_snoc otb xs k x HX.out, ← List.append_assoc]; exact ho3
      have hk3 := (hkk.alloc _).trans hk3
      clear ho3
      go_wp2
      go_roundw
      case rel => exact ⟨k + 1, by omega, by go_num, HO3.out, hk3⟩
      case measure => simp [intOf]; omega
    · go_wp2
      go_ret
      obtain rfl : k = n := by omega
      rw [List.take_of_length_le (by have := HN.out; omega)] at hok
      exact ⟨_, rfl, by rw [HN.out]; simpa using hok, hkk⟩
end Go.Proofs.YtbfhcbihgleddaaGreatDoor

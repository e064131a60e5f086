/-
  Sets of numbers.
-/
import Derived.Test.YtgjjacljjlhnhaaCTx
import Derived.Test.YtgjjacljjlhnhaaCPure
namespace Go.Proofs.Ytgjjacljjlhnhaa
open Go.RowKit

open Go.Maps (Keyed)
open Go.ChangeMaps Go.MapKept
theorem Try.lawI : Keyed Try.prog 3 := Maps.int_keyed Try.underlying3
def In64 (x : Int) : Prop := -9223372036854775808 ≤ x ∧ x ≤ 9223372036854775807
theorem wf64 {x : Int} (h : In64 x) : (Lit.int .i64 x).wf = true := by
  unfold In64 at h
  simp [Lit.wf, IntKind.min, IntKind.max, IntKind.bits, IntKind.signed]
  omega
theorem keyI {k : Int} (hk : In64 k) : keyOf Try.prog 3 (.int .i64 k) = some (.int .i64 k) := by
  simp [keyOf, Try.underlying3, mapKey, wf64 hk]
/-- An entry of a set of numbers. -/
def sv (x : Int) : Value × Value := (.int .i64 x, .agg #[])
/-- Block b is a set of just these numbers. -/
def SetAt (w : World) (b : Nat) (a : List Int) : Prop := MapAt Try.prog 3 w b (a.map sv)
section
variable {w w' : World} {b : Nat} {a : List Int}
theorem SetAt.lt (h : SetAt w b a) : b < w.heap.size := MapAt.lt h
theorem SetAt.back (h : SetAt w b a) (e : w'.heap[b]? = w.heap[b]?) : SetAt w' b a := MapAt.back h e
theorem SetAt.below (h : SetAt w b a) (hb : Below w.heap.size w w') : SetAt w' b a := h.back (hb.block b h.lt)
theorem SetAt.alloc (h : SetAt w b a) (o : Obj) : SetAt (w.alloc o) b a := h.back (Below.heap_alloc w o b h.lt)
theorem SetAt.none {x : Int} (hx : x ∉ a) : ∀ p ∈ a.map sv, p.1 ≠ .int .i64 x := fun p hp e => by
  obtain ⟨y, hy, rfl⟩ := List.mem_map.1 hp
  simp [sv] at e
  exact hx (e ▸ hy)
theorem SetAt.look (h : SetAt w b a) {x : Int} (hx : In64 x) (W : World) (hW : W.heap[b]? = w.heap[b]?) : (Instr.lookup 52 (.map (some b)) (.int .i64 x) true).run Try.prog W = .ok (.tuple #[.agg #[], .bool (a.contains x)]) W := by
  have h' : SetAt W b a := h.back hW
  by_cases hm : x ∈ a
  · obtain ⟨u, v, rfl⟩ := List.append_of_mem hm
    have hp : ((u ++ x :: v).map sv).Perm ((.int .i64 x, .agg #[]) :: (u ++ v).map sv) := by
      have : (u ++ x :: v).Perm (x :: (u ++ v)) := List.perm_middle
      exact this.map sv
    have := MapAt.look_hit h' Try.lawI Try.underlying52 (keyI hx) hp true
    rw [this]
    simp
  · have := MapAt.look_miss h' Try.lawI Try.underlying52 (z := .agg #[]) (by kernel_rfl) (keyI hx) (SetAt.none hm) true
    rw [this]
    simp [hm]
theorem SetAt.put (h : SetAt w b a) {x : Int} (hx : In64 x) (hn : x ∉ a) : ∃ w', (Instr.mapUpdate 52 (.map (some b)) (.int .i64 x) (.agg #[])).run Try.prog w = .ok () w' ∧ SetAt w' b (x :: a) ∧ MTurn w w' b :=
  MapAt.store_new h Try.lawI Try.underlying52 (keyI hx) (SetAt.none hn)
theorem SetAt.made (w : World) : SetAt (w.alloc (.map #[] 0)) w.heap.size [] := MapAt.made Try.prog 3 w
theorem SetAt.len (h : SetAt w b a) (ty : TypeId) : (Builtin.len_ #[52] ty #[.map (some b)]).run Try.prog w = .ok (.int .i64 a.length) w := by
  have := MapAt.len h Try.underlying52 ty
  rw [List.length_map] at this; exact this
theorem SetAt.clear (h : SetAt w b a) (ty : TypeId) : ∃ w', (Builtin.clear_ #[52] ty #[.map (some b)]).run Try.prog w = .ok (.tuple #[]) w' ∧ SetAt w' b [] ∧ MTurn w w' b := by
  have hlt := h.lt
  obtain ⟨es, clock, hb, h1, h2, h3⟩ := h
  refine ⟨_, by simp [Builtin.clear_, run_underlying Try.underlying52, MapKept.run_getObj_map hb, MapKept.run_setObj_map _ hb, Result.andThen]; rfl, ⟨#[], clock, heap_setBlock_same hb _, stamped_empty clock, by simp, by simp⟩, ⟨_, rfl, hlt⟩⟩
/-- A row isn't a set. -/
theorem SetAt.noRow {α : Type} {t sz : Nat} {cs : α → List Value} {base : Nat} {v : Value} {xs : List α} (h : SetAt w b a) (ho : OwnL t sz cs base w v xs) : v.ownBlock ≠ some b := fun e => by
  obtain ⟨cur, hc⟩ := ho.has b e
  obtain ⟨es, clock, hb⟩ := MapAt.isMap h
  rw [hc] at hb; cases hb
theorem SetAt.noBox {t : TypeId} {k : Nat} {ca : Array Value} (h : SetAt w b a) (ho : BoxT t w k ca) : k ≠ b := fun e => by
  subst e
  obtain ⟨es, clock, hb⟩ := MapAt.isMap h
  unfold BoxT at ho
  rw [ho] at hb; cases hb
end
set_option maxHeartbeats 4000000 in
set_option maxRecDepth 100000 in
theorem has_any {w : World} {b : Nat} {a : List Int} (h : SetAt w b a) {x : Int} (hx : In64 x) :
    Calls Try.prog 36 #[.map (some b), .int .i64 x] w fun e w' => e = .returned (.bool (a.contains x)) ∧ Below w.heap.size w w' := by
  have hlook := h.look hx w rfl
  generalize a.contains x = r at *
  go_enter Try.func36, Try.ntmps36
  go_wp2_with (at_lookup; refine wp_lookM rfl _ _ 52 true rfl _ _ rfl rfl hlook ?_)
  go_ret
  exact ⟨rfl, by simp only [below_box]⟩
set_option maxHeartbeats 4000000 in
set_option maxRecDepth 100000 in
theorem put_any {w : World} {b : Nat} {a : List Int} (h : SetAt w b a) {x : Int} (hx : In64 x) (hn : x ∉ a) :
    Calls Try.prog 37 #[.map (some b), .int .i64 x] w fun e w' => e = .returned (.tuple #[]) ∧ SetAt w' b (x :: a) ∧ MTurn w w' b := by
  obtain ⟨w1, hrun, h1, h2⟩ := h.put hx hn
  have H1 := hide h1
  have H2 := hide h2
  clear h h1 h2 hn
  go_enter Try.func37, Try.ntmps37
  go_wp2_with (at_lookup; refine wp_putM rfl _ _ _ 52 rfl _ _ _ rfl rfl rfl hrun ?_)
  go_end0
  exact ⟨rfl, H1.out, H2.out⟩
theorem once_snoc (l : List Int) (x : Int) : once (l ++ [x]) = if (once l).contains x then once l else once l ++ [x] := by
  unfold once
  rw [List.foldl_append]; rfl
theorem once_take {l : List Int} {i : Nat} {x : Int} (h : l[i]? = some x) : once (l.take (i + 1)) = if (once (l.take i)).contains x then once (l.take i) else once (l.take i) ++ [x] := by
  obtain ⟨h1, rfl⟩ := List.getElem?_eq_some_iff.1 h
  rw [List.take_succ_eq_append_getElem h1, once_snoc]
theorem take_snoc {α : Type} {l : List α} {i : Nat} {x : α} (h : l[i]? = some x) : l.take (i + 1) = l.take i ++ [x] := by
  obtain ⟨h1, rfl⟩ := List.getElem?_eq_some_iff.1 h
  rw [List.take_succ_eq_append_getElem h1]
theorem once_len (l : List Int) : (once l).length ≤ l.length := by
  have h : ∀ (l o : List Int), (l.foldl (fun o x => if o.contains x then o else o ++ [x]) o).length ≤ o.length + l.length := by
    intro l
    induction l with
    | nil => intro o; simp
    | cons x l ih =>
      intro o
      rw [List.foldl_cons]
      have := ih (if o.contains x then o else o ++ [x])
      split at this
      · rw [if_pos (by assumption)]; simp only [List.length_cons]; omega
      · rw [if_neg (by assumption)]; simp only [List.length_cons, List.length_append, List.length_nil] at *; omega
  have := h l []
  rw [List.length_nil, Nat.zero_add] at this
  exact this
theorem cont_rev (l : List Int) (x : Int) : l.reverse.contains x = l.contains x := by
  rw [Bool.eq_iff_iff]; simp
theorem newI (w : World) (x : Int) : ∀ (j : Nat) (u : Value), (i64cs x)[j]? = some u → (w.alloc (.cells #[.int .i64 x] 3)).cell? ((⟨w.heap.size, 0, none⟩ : Addr).add j) = some u := by
  intro j u hu
  have hb : BoxT 3 (w.alloc (.cells #[.int .i64 x] 3)) w.heap.size #[.int .i64 x] := BoxT.new _ _ _
  rw [add_plain2, hb.cellAt]
  match j, hu with
  | 0, hu => simpa [i64cs] using hu
  | j + 1, hu => simp [i64cs] at hu
set_option maxHeartbeats 4000000 in
set_option maxRecDepth 100000 in
theorem eachOnce_any {w : World} {B : Nat} {v : Value} {l : List Int} (hl : LSeg 1 i64cs B w v l) (hB : B ≤ w.heap.size) (hn : l.length ≤ 1000000) (h64 : ∀ x ∈ l, In64 x) :
    Calls Try.prog 24 #[v] w fun e w' => ∃ u, e = .returned u ∧ OwnL 3 1 i64cs w.heap.size w' u (once l) ∧ Below w.heap.size w w' := by
  obtain ⟨ao, cap, rfl⟩ := hl.shapeOf
  have hmm := @run_makeMap Try.prog
  have HL := hide (hl.mono hB)
  have H64 := hide h64
  clear hl h64 hB
  have B0 := hide (below_box w (.map #[] 0))
  have S0 := hide (SetAt.made w)
  go_enter Try.func24, Try.ntmps24
  go_wp2_with fail
  go_loopg [3, 6, 10] (l.length + 1) (fun gh uv xv iv wr => ∃ i : Nat, iv = .int .i64 (i : Int) ∧ i ≤ l.length ∧ l.length + 1 ≤ gh + i ∧ Hid (OwnL 3 1 i64cs w.heap.size wr uv (once (l.take i))) ∧ Hid (Below w.heap.size w wr) ∧ Hid (SetAt wr w.heap.size (once (l.take i)).reverse) ∧ Hid (∀ x ∈ once (l.take i), x ∈ l.take i))
  case atStart => exact ⟨0, rfl, by omega, by omega, (show OwnL _ _ _ _ _ _ _ by simpa [once] using OwnL.nil _ _ _ _ _), B0, S0, (show ∀ x ∈ once [], _ from fun x hx => by simp [once] at hx)⟩
  case round =>
    clear B0 S0
    obtain ⟨i, rfl, hi, hg, HO, HB, HS, HM⟩ := hrel
    obtain ⟨go, rfl⟩ : ∃ go, gk = go + 1 := ⟨gk - 1, by omega⟩
    by_cases hlt : i < l.length
    · obtain ⟨x, hxx⟩ := get_of_lt hlt
      have bt : (i : Int) < (l.length : Int) := by omega
      obtain ⟨nb, no, rfl, nlt, e0⟩ := seg_int (HL.out.below HB.out) hxx
      have HX : Hid (In64 x) := H64.out x (List.mem_of_getElem? hxx)
      have HE := hide (once_take hxx)
      have HT := hide (take_snoc hxx)
      have HLN : Hid ((once (l.take i)).length ≤ 1000000) := (show _ ≤ _ by have := once_len (l.take i); rw [List.length_take] at this; omega)
      have HH := hide (has_any HS.out HX.out)
      obtain ⟨r, hr⟩ : ∃ r, (once (l.take i)).reverse.contains x = r := ⟨_, rfl⟩
      rw [hr] at HH
      have HR := hide hr
      clear hxx hr
      cases r with
      | true =>
        go_wp2_with (first | (go_at_call 36; refine HH.out.mono ?_; rintro e w1 ⟨rfl, b1⟩; have B1 := hide b1; clear b1) | fail)
        go_roundg go
        case rel => 
          have e1 : once (l.take (i + 1)) = once (l.take i) := by rw [HE.out, ← cont_rev, HR.out]; rfl
          refine ⟨i + 1, by go_num, by omega, by omega, ?_, HB.out.trans (B1.out.mono HB.out.size), ?_, ?_⟩
          · rw [e1]; exact HO.out.below B1.out
          · rw [e1]; exact HS.out.below B1.out
          · rw [e1]; exact fun y hy => by rw [HT.out]; exact List.mem_append_left _ (HM.out y hy)
        case measure => omega
      | false =>
        have HNM : Hid (x ∉ (once (l.take i)).reverse) := hide (by have := HR.out; simpa using this)
        go_wp2_with (first | (go_at_call 36; refine HH.out.mono ?_; rintro e w1 ⟨rfl, b1⟩; have B1 := hide b1; clear b1) | (go_at_call 37; refine (put_any (HS.out.below B1.out) HX.out HNM.out).mono ?_; rintro e w2 ⟨rfl, s2, m2⟩; have S2 := hide s2; have M2 := hide m2; clear s2 m2; have HNW := hide (newI w2 x); have O2 := hide ((HO.out.below B1.out).back (w' := w2) (fun g e => M2.out.other (fun e2 => SetAt.noRow (HS.out.below B1.out) (HO.out.below B1.out) (e2 ▸ e)))); have B2 : Hid (Below w.heap.size w w2) := (HB.out.trans (B1.out.mono HB.out.size)).grown M2.out.grown (HB.out.trans (B1.out.mono HB.out.size)).size (fun g e => by cases e; exact Nat.le_refl _); have HBS : Hid (w.heap.size ≤ (w2.alloc (.cells #[.int .i64 x] 3)).heap.size) := (show _ ≤ _ by have := B2.out.size; simp; omega)) | (at_builtin; refine app_L Try.infoI Try.underlying25 rfl (by decide) (by decide) i64cs_len i64cs_one rfl _ _ rfl w.heap.size _ _ rfl (O2.out.alloc _) _ _ x rfl (by simpa using HNW.out) HLN.out HBS.out ?_; intro v4 w4 h4 g4 k4; have H4 := hide h4; have B4 := hide (B2.out.trans ((below_box w2 (.cells #[.int .i64 x] 3)).mono B2.out.size) |>.grown g4 HBS.out (fun g e => O2.out.at g e)); have S4 := hide ((S2.out.alloc (.cells #[.int .i64 x] 3)).back (g4.block _ (S2.out.alloc _).lt (fun e => SetAt.noRow S2.out O2.out e.symm))); clear h4 g4 k4) | fail)
        go_roundg go
        case rel =>
          have e1 : once (l.take (i + 1)) = once (l.take i) ++ [x] := by rw [HE.out, ← cont_rev, HR.out]; rfl
          refine ⟨i + 1, by go_num, by omega, by omega, ?_, B4, ?_, ?_⟩
          · rw [e1]; exact H4.out
          · rw [e1, List.reverse_append]; exact S4.out
          · rw [e1]; exact fun y hy => by
              rw [HT.out]
              rcases List.mem_append.1 hy with hy | hy
              · exact List.mem_append_left _ (HM.out y hy)
              · exact List.mem_append_right _ hy
        case measure => omega
    · obtain rfl : i = l.length := by omega
      have bt : ¬ ((l.length : Nat) : Int) < (l.length : Int) := by omega
      go_wp2_with fail
      go_ret
      have := HO.out
      rw [List.take_of_length_le (Nat.le_refl _)] at this
      exact ⟨_, rfl, this, HB.out⟩

end Go.Proofs.Ytgjjacljjlhnhaa

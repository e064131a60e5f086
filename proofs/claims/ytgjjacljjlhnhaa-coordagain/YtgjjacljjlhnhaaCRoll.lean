/-
  newSet, only, missing.
-/
import Derived.Test.YtgjjacljjlhnhaaCSet
namespace Go.Proofs.Ytgjjacljjlhnhaa
open Go.RowKit

theorem wp_lenS {w : World} {ops : Array Oper} {rest : List Oper} {o : Oper} {a : Act} {Q : Exit → Act → World → Prop} {b : Nat} {A : List Int} (hg : o.guard = none) (m : Operand) (hop : o.op = Op.call { callee := Callee.builtin Builtin.len, args := #[m], argTypes := #[52] }) (hm : a.eval m = .map (some b)) (h : SetAt w b A)
    (hK : wpList Try.prog ops Q rest (a.put o.dst (.int .i64 A.length)) w) : wpList Try.prog ops Q (o :: rest) a w := by
  refine wpList_plain hg fun K' hK' => ?_
  unfold Oper.wp
  simp [execOp, hop, resolve, invoke, builtin, hm, h.len o.type, Result.andThen]
  exact hK' _ _ hK
theorem wp_clrS {w : World} {ops : Array Oper} {rest : List Oper} {o : Oper} {a : Act} {Q : Exit → Act → World → Prop} {b : Nat} {A : List Int} (hg : o.guard = none) (m : Operand) (hop : o.op = Op.call { callee := Callee.builtin Builtin.clear, args := #[m], argTypes := #[52] }) (hm : a.eval m = .map (some b)) (h : SetAt w b A)
    (hK : ∀ w', SetAt w' b [] → MTurn w w' b → wpList Try.prog ops Q rest (a.put o.dst (.tuple #[])) w') : wpList Try.prog ops Q (o :: rest) a w := by
  refine wpList_plain hg fun K' hK' => ?_
  obtain ⟨w', hr, h1, h2⟩ := h.clear o.type
  unfold Oper.wp
  simp [execOp, hop, resolve, invoke, builtin, hm, hr, Result.andThen]
  exact hK' _ _ (hK w' h1 h2)
theorem once_nodup (l : List Int) : (once l).Nodup := by
  have h : ∀ (l o : List Int), o.Nodup → (l.foldl (fun o x => if o.contains x then o else o ++ [x]) o).Nodup := by
    intro l
    induction l with
    | nil => intro o h; exact h
    | cons x l ih =>
      intro o h
      rw [List.foldl_cons]
      refine ih _ ?_
      split
      · exact h
      · rename_i hc
        refine List.nodup_append.2 ⟨h, by simp, fun a ha b hb e => ?_⟩
        rw [List.mem_singleton] at hb
        subst hb; subst e
        exact hc (by simpa using ha)
  exact h l [] List.nodup_nil
theorem once_id {l : List Int} (h : l.Nodup) : once l = l := by
  have h2 : ∀ (l o : List Int), (o ++ l).Nodup → l.foldl (fun o x => if o.contains x then o else o ++ [x]) o = o ++ l := by
    intro l
    induction l with
    | nil => intro o _; simp
    | cons x l ih =>
      intro o h
      rw [List.foldl_cons, if_neg, ih]
      · simp
      · simpa using h
      · intro hc
        have hx : x ∈ o := by simpa using hc
        exact (List.nodup_append.1 h).2.2 x hx x (List.mem_cons_self ..) rfl
  have := h2 l [] (by simpa using h)
  exact this
theorem once_mem (l : List Int) : ∀ x ∈ once l, x ∈ l := by
  have h : ∀ (l o : List Int), ∀ x ∈ l.foldl (fun o x => if o.contains x then o else o ++ [x]) o, x ∈ o ∨ x ∈ l := by
    intro l
    induction l with
    | nil => intro o x h; exact .inl h
    | cons y l ih =>
      intro o x h
      rw [List.foldl_cons] at h
      rcases ih _ x h with h | h
      · split at h
        · exact .inl h
        · rcases List.mem_append.1 h with h | h
          · exact .inl h
          · rw [List.mem_singleton] at h; subst h; exact .inr (List.mem_cons_self ..)
      · exact .inr (List.mem_cons_of_mem _ h)
  intro x hx
  rcases h l [] x hx with h | h
  · cases h
  · exact h
set_option maxHeartbeats 4000000 in
set_option maxRecDepth 100000 in
theorem newSet_any {w : World} {B : Nat} {v : Value} {l : List Int} (hl : LSeg 1 i64cs B w v l) (hB : B ≤ w.heap.size) (hn : l.length ≤ 1000000) (h64 : ∀ x ∈ l, In64 x) (hnd : l.Nodup) :
    Calls Try.prog 25 #[v] w fun e w' => e = .returned (.map (some w.heap.size)) ∧ SetAt w' w.heap.size l.reverse ∧ Below w.heap.size w w' := by
  obtain ⟨ao, cap, rfl⟩ := hl.shapeOf
  have hmm := @run_makeMap Try.prog
  have HL := hide (hl.mono hB)
  have H64 := hide h64
  have HD := hide hnd
  clear hl h64 hB hnd
  have B0 := hide (below_box w (.map #[] 0))
  have S0 := hide (SetAt.made w)
  go_enter Try.func25, Try.ntmps25
  go_wp2_with fail
  go_loopg [5, 9] (l.length + 1) (fun gh xv iv wr => ∃ i : Nat, iv = .int .i64 (i : Int) ∧ i ≤ l.length ∧ l.length + 1 ≤ gh + i ∧ Hid (Below w.heap.size w wr) ∧ Hid (SetAt wr w.heap.size (l.take i).reverse))
  case atStart => exact ⟨0, rfl, by omega, by omega, B0, S0⟩
  case round =>
    clear B0 S0
    obtain ⟨i, rfl, hi, hg, HB, HS⟩ := hrel
    obtain ⟨go, rfl⟩ : ∃ go, gk = go + 1 := ⟨gk - 1, by omega⟩
    by_cases hlt : i < l.length
    · obtain ⟨x, hxx⟩ := get_of_lt hlt
      have bt : (i : Int) < (l.length : Int) := by omega
      obtain ⟨nb, no, rfl, nlt, e0⟩ := seg_int (HL.out.below HB.out) hxx
      have HX : Hid (In64 x) := H64.out x (List.mem_of_getElem? hxx)
      have HT := hide (take_snoc hxx)
      have HNM : Hid (x ∉ (l.take i).reverse) := hide (by
        rw [List.mem_reverse]
        intro hm
        have h1 : (l.take (i + 1)).Nodup := List.Nodup.sublist (List.take_sublist _ _) HD.out
        rw [HT.out] at h1
        exact (List.nodup_append.1 h1).2.2 x hm x (List.mem_singleton.2 rfl) rfl)
      clear hxx
      go_wp2_with (first | (go_at_call 37; refine (put_any HS.out HX.out HNM.out).mono ?_; rintro e w2 ⟨rfl, s2, m2⟩; have S2 := hide s2; have M2 := hide m2; clear s2 m2; have B2 := hide (HB.out.grown M2.out.grown HB.out.size (fun g e => by cases e; exact Nat.le_refl _))) | fail)
      go_roundg go
      case rel => exact ⟨i + 1, by go_num, by omega, by omega, B2, (show SetAt _ _ _ by rw [HT.out, List.reverse_append]; exact S2.out)⟩
      case measure => omega
    · obtain rfl : i = l.length := by omega
      have bt : ¬ ((l.length : Nat) : Int) < (l.length : Int) := by omega
      go_wp2_with fail
      go_ret
      have := HS.out
      rw [List.take_of_length_le (Nat.le_refl _)] at this
      exact ⟨rfl, this, HB.out⟩
/-- Those of a list that are in another. -/
def inn (l A : List Int) : List Int := l.filter fun x => A.contains x
theorem inn_nil (A : List Int) : inn [] A = [] := rfl
theorem miss_nil (A : List Int) : miss [] A = [] := rfl
theorem inn_len (l A : List Int) : (inn l A).length ≤ l.length := List.length_filter_le _ _
theorem miss_len (l A : List Int) : (miss l A).length ≤ l.length := List.length_filter_le _ _
theorem filter_take {l : List Int} {i : Nat} {x : Int} (h : l[i]? = some x) (p : Int → Bool) : (l.take (i + 1)).filter p = if p x then (l.take i).filter p ++ [x] else (l.take i).filter p := by
  rw [take_snoc h, List.filter_append]
  cases hp : p x <;> simp [hp]
theorem inn_take {l : List Int} {i : Nat} {x : Int} (h : l[i]? = some x) (A : List Int) : inn (l.take (i + 1)) A = if A.contains x then inn (l.take i) A ++ [x] else inn (l.take i) A := filter_take h _
theorem miss_take {l : List Int} {i : Nat} {x : Int} (h : l[i]? = some x) (A : List Int) : miss (l.take (i + 1)) A = if A.contains x then miss (l.take i) A else miss (l.take i) A ++ [x] := by
  have := filter_take h (fun x => !A.contains x)
  unfold miss
  rw [this]
  cases A.contains x <;> rfl
set_option maxHeartbeats 4000000 in
set_option maxRecDepth 100000 in
theorem only_any {w : World} {B : Nat} {v : Value} {l : List Int} (hl : LSeg 1 i64cs B w v l) (hB : B ≤ w.heap.size) (hn : l.length ≤ 1000000) (h64 : ∀ x ∈ l, In64 x) {b : Nat} {A : List Int} (hA : SetAt w b A) :
    Calls Try.prog 28 #[.map (some b), v] w fun e w' => ∃ u, e = .returned u ∧ OwnL 3 1 i64cs w.heap.size w' u (inn l A) ∧ Below w.heap.size w w' := by
  obtain ⟨ao, cap, rfl⟩ := hl.shapeOf
  have HL := hide (hl.mono hB)
  have H64 := hide h64
  have HS0 := hide hA
  clear hl h64 hB hA
  go_enter Try.func28, Try.ntmps28
  go_wp2_with fail
  go_loopg [5, 7, 10] (l.length + 1) (fun gh uv xv iv wr => ∃ i : Nat, iv = .int .i64 (i : Int) ∧ i ≤ l.length ∧ l.length + 1 ≤ gh + i ∧ Hid (OwnL 3 1 i64cs w.heap.size wr uv (inn (l.take i) A)) ∧ Hid (Below w.heap.size w wr))
  case atStart => exact ⟨0, rfl, by omega, by omega, (show OwnL _ _ _ _ _ _ _ by rw [List.take_zero, inn_nil]; exact OwnL.nil _ _ _ _ _), Below.refl _ _⟩
  case round =>
    obtain ⟨i, rfl, hi, hg, HO, HB⟩ := hrel
    obtain ⟨go, rfl⟩ : ∃ go, gk = go + 1 := ⟨gk - 1, by omega⟩
    by_cases hlt : i < l.length
    · obtain ⟨x, hxx⟩ := get_of_lt hlt
      have bt : (i : Int) < (l.length : Int) := by omega
      obtain ⟨nb, no, rfl, nlt, e0⟩ := seg_int (HL.out.below HB.out) hxx
      have HX : Hid (In64 x) := H64.out x (List.mem_of_getElem? hxx)
      have HE := hide (inn_take hxx A)
      have HLN : Hid ((inn (l.take i) A).length ≤ 1000000) := hide (by have := inn_len (l.take i) A; rw [List.length_take] at this; omega)
      have HH := hide (has_any (HS0.out.below HB.out) HX.out)
      obtain ⟨r, hr⟩ : ∃ r, A.contains x = r := ⟨_, rfl⟩
      rw [hr] at HH
      have HR := hide hr
      clear hxx hr
      cases r with
      | false =>
        go_wp2_with (first | (go_at_call 36; refine HH.out.mono ?_; rintro e w1 ⟨rfl, b1⟩; have B1 := hide b1; clear b1) | fail)
        go_roundg go
        case rel =>
          refine ⟨i + 1, by go_num, by omega, by omega, ?_, HB.out.trans (B1.out.mono HB.out.size)⟩
          rw [HE.out, HR.out]; exact HO.out.below B1.out
        case measure => omega
      | true =>
        go_wp2_with (first | (go_at_call 36; refine HH.out.mono ?_; rintro e w1 ⟨rfl, b1⟩; have B1 := hide b1; clear b1; have HNW := hide (newI w1 x); have O2 := hide (HO.out.below B1.out); have B2 := hide (HB.out.trans (B1.out.mono HB.out.size)); have HBS : Hid (w.heap.size ≤ (w1.alloc (.cells #[.int .i64 x] 3)).heap.size) := (show _ ≤ _ by have := B2.out.size; simp; omega)) | (at_builtin; refine app_L Try.infoI Try.underlying25 rfl (by decide) (by decide) i64cs_len i64cs_one rfl _ _ rfl w.heap.size _ _ rfl (O2.out.alloc _) _ _ x rfl (by simpa using HNW.out) HLN.out HBS.out ?_; intro v4 w4 h4 g4 k4; have H4 := hide h4; have B4 := hide (B2.out.trans ((below_box w1 (.cells #[.int .i64 x] 3)).mono B2.out.size) |>.grown g4 HBS.out (fun g e => O2.out.at g e)); clear h4 g4 k4) | fail)
        go_roundg go
        case rel =>
          refine ⟨i + 1, by go_num, by omega, by omega, ?_, B4⟩
          rw [HE.out, HR.out]; exact H4.out
        case measure => omega
    · obtain rfl : i = l.length := by omega
      have bt : ¬ ((l.length : Nat) : Int) < (l.length : Int) := by omega
      go_wp2_with fail
      go_ret
      have := HO.out
      rw [List.take_of_length_le (Nat.le_refl _)] at this
      exact ⟨_, rfl, this, HB.out⟩
set_option maxHeartbeats 4000000 in
set_option maxRecDepth 100000 in
theorem missing_any {w : World} {B : Nat} {v : Value} {l : List Int} (hl : LSeg 1 i64cs B w v l) (hB : B ≤ w.heap.size) (hn : l.length ≤ 1000000) (h64 : ∀ x ∈ l, In64 x) (ov : Value) {b : Nat} {A : List Int} (hA : SetAt w b A) :
    Calls Try.prog 39 #[.agg #[v, ov, .map (some b)]] w fun e w' => ∃ u, e = .returned u ∧ OwnL 3 1 i64cs w.heap.size w' u (miss l A) ∧ Below w.heap.size w w' := by
  obtain ⟨ao, cap, rfl⟩ := hl.shapeOf
  have hb1 := below_box w (.cells #[.slice ao l.length cap, ov, .map (some b)] 56)
  have hbx : BoxT 56 (w.alloc (.cells #[.slice ao l.length cap, ov, .map (some b)] 56)) w.heap.size #[.slice ao l.length cap, ov, .map (some b)] := BoxT.new _ _ _
  have hs1 : (w.alloc (.cells #[.slice ao l.length cap, ov, .map (some b)] 56)).heap.size = w.heap.size + 1 := by simp
  have HA := hide (hA.below hb1)
  have HL := hide ((hl.mono hB).below hb1)
  obtain ⟨b0, b1, b2⟩ := hbx.cells3
  generalize hW : w.alloc (.cells #[.slice ao l.length cap, ov, .map (some b)] 56) = W at *
  have HBX := hide hbx
  have HB1 := hide hb1
  have HS1 := hide hs1
  have H64 := hide h64
  clear hl h64 hB hA hb1 hbx hs1
  go_enter Try.func39, Try.ntmps39
  go_wp2_with fail
  (try rw [hW])
  go_loopg [3, 5, 9] (l.length + 1) (fun gh uv xv iv wr => ∃ i : Nat, iv = .int .i64 (i : Int) ∧ i ≤ l.length ∧ l.length + 1 ≤ gh + i ∧ Hid (OwnL 3 1 i64cs (w.heap.size + 1) wr uv (miss (l.take i) A)) ∧ Hid (Below (w.heap.size + 1) W wr))
  case atStart => exact ⟨0, rfl, by omega, by omega, (show OwnL _ _ _ _ _ _ _ by rw [List.take_zero, miss_nil]; exact OwnL.nil _ _ _ _ _), Below.refl _ _⟩
  case round =>
    obtain ⟨i, rfl, hi, hg, HO, HB⟩ := hrel
    obtain ⟨go, rfl⟩ : ∃ go, gk = go + 1 := ⟨gk - 1, by omega⟩
    by_cases hlt : i < l.length
    · obtain ⟨x, hxx⟩ := get_of_lt hlt
      have bt : (i : Int) < (l.length : Int) := by omega
      obtain ⟨nb, no, rfl, nlt, e0⟩ := seg_int (HL.out.below (HB.out.mono (Nat.le_succ _))) hxx
      have HX : Hid (In64 x) := H64.out x (List.mem_of_getElem? hxx)
      have HE := hide (miss_take hxx A)
      have HLN : Hid ((miss (l.take i) A).length ≤ 1000000) := hide (by have := miss_len (l.take i) A; rw [List.length_take] at this; omega)
      have HBB : Hid (Below W.heap.size W wr) := hide (by rw [HS1.out]; exact HB.out)
      have HH := hide (has_any (HA.out.below HBB.out) HX.out)
      obtain ⟨c0, c1, c2⟩ := (HBX.out.below HBB.out).cells3
      obtain ⟨r, hr⟩ : ∃ r, A.contains x = r := ⟨_, rfl⟩
      rw [hr] at HH
      have HR := hide hr
      have HSZ : Hid (w.heap.size + 1 ≤ wr.heap.size) := hide (by have := HBB.out.size; have := HS1.out; omega)
      clear hxx hr
      cases r with
      | true =>
        go_wp2_with (first | (go_at_call 36; refine HH.out.mono ?_; rintro e w1 ⟨rfl, b1⟩; have B1 := hide b1; clear b1) | fail)
        go_roundg go
        case rel =>
          refine ⟨i + 1, by go_num, by omega, by omega, ?_, HB.out.trans (B1.out.mono HSZ.out)⟩
          rw [HE.out, HR.out]; exact HO.out.below B1.out
        case measure => omega
      | false =>
        go_wp2_with (first | (go_at_call 36; refine HH.out.mono ?_; rintro e w1 ⟨rfl, b1⟩; have B1 := hide b1; clear b1; have HNW := hide (newI w1 x); have O2 := hide (HO.out.below B1.out); have B2 := hide (HB.out.trans (B1.out.mono HSZ.out)); have HBS : Hid (w.heap.size + 1 ≤ (w1.alloc (.cells #[.int .i64 x] 3)).heap.size) := (show _ ≤ _ by have := B1.out.size; have := HSZ.out; simp; omega)) | (at_builtin; refine app_L Try.infoI Try.underlying25 rfl (by decide) (by decide) i64cs_len i64cs_one rfl _ _ rfl (w.heap.size + 1) _ _ rfl (O2.out.alloc _) _ _ x rfl (by simpa using HNW.out) HLN.out HBS.out ?_; intro v4 w4 h4 g4 k4; have H4 := hide h4; have B4 := hide (B2.out.trans ((below_box w1 (.cells #[.int .i64 x] 3)).mono (by have := B1.out.size; have := HSZ.out; omega)) |>.grown g4 HBS.out (fun g e => O2.out.at g e)); clear h4 g4 k4) | fail)
        go_roundg go
        case rel =>
          refine ⟨i + 1, by go_num, by omega, by omega, ?_, B4⟩
          rw [HE.out, HR.out]; exact H4.out
        case measure => omega
    · obtain rfl : i = l.length := by omega
      have bt : ¬ ((l.length : Nat) : Int) < (l.length : Int) := by omega
      go_wp2_with fail
      go_ret
      have := HO.out
      rw [List.take_of_length_le (Nat.le_refl _)] at this
      exact ⟨_, rfl, this.mono (Nat.le_succ _), HB1.out.trans (HB.out.mono (Nat.le_succ _))⟩

end Go.Proofs.Ytgjjacljjlhnhaa
